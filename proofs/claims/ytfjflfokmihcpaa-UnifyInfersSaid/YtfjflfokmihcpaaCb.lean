/- Rows of a fresh block that are written over, cell by cell. No program in sight. -/
import Derived.Test.YtfjflfokmihcpaaCa
namespace Go.Proofs.Ytfjflfokmihcpaa
open Go.RowKit
set_option linter.unusedVariables false
set_option linter.unusedSimpArgs false

def setL (w : World) (b o : Nat) : List Value → World
  | [] => w
  | v :: l => setL (w.setCell ⟨b, o, none⟩ v) b (o + 1) l
def setA (cur : Array Value) (o : Nat) : List Value → Array Value
  | [] => cur
  | v :: l => setA (cur.setIfInBounds o v) (o + 1) l
theorem setA_size : ∀ (l : List Value) (cur : Array Value) (o : Nat), (setA cur o l).size = cur.size
  | [], _, _ => rfl
  | v :: l, cur, o => by rw [setA, setA_size l]; simp
theorem setA_out : ∀ (l : List Value) (cur : Array Value) (o k : Nat), (k < o ∨ o + l.length ≤ k) → (setA cur o l)[k]? = cur[k]?
  | [], _, _, _, _ => rfl
  | v :: l, cur, o, k, h => by
    rw [List.length_cons] at h
    rw [setA, setA_out l _ (o + 1) k (by omega), Array.getElem?_setIfInBounds_ne (by omega)]
theorem setA_in : ∀ (l : List Value) (cur : Array Value) (o j : Nat) (v : Value), o + l.length ≤ cur.size → l[j]? = some v → (setA cur o l)[o + j]? = some v
  | [], _, _, _, _, _, h => by simp at h
  | x :: l, cur, o, 0, v, hs, h => by
    rw [List.length_cons] at hs
    simp at h; subst h
    rw [setA, setA_out l _ (o + 1) (o + 0) (by omega)]
    have ho : o < cur.size := by omega
    simp [ho]
  | x :: l, cur, o, j + 1, v, hs, h => by
    rw [List.length_cons] at hs
    rw [setA, show o + (j + 1) = o + 1 + j by omega]
    exact setA_in l _ (o + 1) j v (by simp; omega) (by simpa using h)
theorem setL_all : ∀ (l : List Value) (w : World) (b o : Nat) (cur : Array Value) (e : TypeId), w.heap[b]? = some (.cells cur e (0, 0)) →
    (setL w b o l).heap[b]? = some (.cells (setA cur o l) e (0, 0)) ∧ (∀ k, k ≠ b → (setL w b o l).heap[k]? = w.heap[k]?) ∧ (setL w b o l).heap.size = w.heap.size ∧ (setL w b o l).os = w.os ∧ (setL w b o l).tape = w.tape ∧ (setL w b o l).output = w.output
  | [], w, b, o, cur, e, h => ⟨h, fun _ _ => rfl, rfl, rfl, rfl, rfl⟩
  | v :: l, w, b, o, cur, e, h => by
    have h1 : (w.setCell ⟨b, o, none⟩ v).heap[b]? = some (.cells (cur.setIfInBounds o v) e (0, 0)) := by rw [setCell_eq_setRow w b o cur e (0, 0) v h, setRow_heap w b cur _ e (0, 0) h]
    obtain ⟨a1, a2, a3, a4, a5, a6⟩ := setL_all l (w.setCell ⟨b, o, none⟩ v) b (o + 1) _ e h1
    refine ⟨a1, fun k hk => (a2 k hk).trans ?_, a3.trans (by simp), a4.trans rfl, a5.trans rfl, a6.trans rfl⟩
    rw [setCell_eq_setRow w b o cur e (0, 0) v h, setRow_other w b k _ hk]
theorem row_apart {i i' m : Nat} (h : i ≠ i') {j : Nat} (hj : j < m) : i' * m + j < i * m ∨ i * m + m ≤ i' * m + j := by
  rcases Nat.lt_or_gt_of_ne h with h | h
  · right
    have := Nat.mul_le_mul_right m (show i + 1 ≤ i' by omega)
    rw [Nat.add_mul] at this
    omega
  · left
    have := Nat.mul_le_mul_right m (show i' + 1 ≤ i by omega)
    rw [Nat.add_mul] at this
    omega
theorem Sp.set6 {P : Nat → Prop} {w : World} {b i : Nat} {cur : Array Value} {hd : Hd} (hp : P b) (hc : w.heap[b]? = some (.cells cur 42 (0, 0))) (hi : (i + 1) * 6 ≤ cur.size) (hl : lf hd) : Sp P w (setL w b (i * 6) (Hd.cells hd)) := by
  obtain ⟨a1, a2, a3, a4, a5, a6⟩ := setL_all (Hd.cells hd) w b (i * 6) cur _ hc
  refine ⟨a4, a5, a6, by omega, fun k hk hn => a2 k (fun q => hn (q ▸ hp)), fun x cx e hpx hcx => ?_⟩
  by_cases hx : x = b
  · subst hx
    rw [hc] at hcx
    cases hcx
    refine ⟨_, a1, setA_size _ _ _, fun _ i' hi' => ?_, fun he => absurd he (by decide)⟩
    by_cases hii : i = i'
    · subst hii
      exact .inr ⟨hd, hl, fun j v hv => setA_in _ _ _ _ _ (by show i * 6 + 6 ≤ _; omega) hv⟩
    · refine .inl fun j hj => setA_out _ _ _ _ ?_
      have := row_apart hii hj
      show _ ∨ i * 6 + 6 ≤ _
      exact this
  · exact ⟨cx, (a2 x hx).trans hcx, rfl, fun _ _ _ => .inl fun _ _ => rfl, fun _ _ _ => .inl fun _ _ => rfl⟩
theorem Sp.set7 {P : Nat → Prop} {w : World} {b i : Nat} {cur : Array Value} {nm : ByteArray} {hd : Hd} (hp : P b) (hc : w.heap[b]? = some (.cells cur 52 (0, 0))) (hi : (i + 1) * 7 ≤ cur.size) (hl : lf hd) : Sp P w (setL w b (i * 7) (.string nm :: Hd.cells hd)) := by
  obtain ⟨a1, a2, a3, a4, a5, a6⟩ := setL_all (.string nm :: Hd.cells hd) w b (i * 7) cur _ hc
  refine ⟨a4, a5, a6, by omega, fun k hk hn => a2 k (fun q => hn (q ▸ hp)), fun x cx e hpx hcx => ?_⟩
  by_cases hx : x = b
  · subst hx
    rw [hc] at hcx
    cases hcx
    refine ⟨_, a1, setA_size _ _ _, fun he => absurd he (by decide), fun _ i' hi' => ?_⟩
    by_cases hii : i = i'
    · subst hii
      exact .inr ⟨nm, hd, hl, fun j v hv => setA_in _ _ _ _ _ (by show i * 7 + 7 ≤ _; omega) hv⟩
    · refine .inl fun j hj => setA_out _ _ _ _ ?_
      have := row_apart hii hj
      show _ ∨ i * 7 + 7 ≤ _
      exact this
  · exact ⟨cx, (a2 x hx).trans hcx, rfl, fun _ _ _ => .inl fun _ _ => rfl, fun _ _ _ => .inl fun _ _ => rfl⟩
end Go.Proofs.Ytfjflfokmihcpaa
