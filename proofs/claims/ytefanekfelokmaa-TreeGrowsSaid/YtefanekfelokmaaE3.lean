/- Nodes that are put around a sound expression. Condition: the node lies in memory. -/
import Derived.Test.YtefanekfelokmaaE2
import Derived.Test.YtefanekfelokmaaO
namespace Go.Proofs.Ytefanekfelokmaa
open Go.RowKit
set_option linter.unusedVariables false
set_option linter.unusedSimpArgs false

theorem foldD_mem : ∀ {l : List (Int × Nd)} {y : Int × Nd} (a : Int), y ∈ l → y.1 ≤ l.foldl (fun a y => if a < y.1 then y.1 else a) a
  | z :: l, y, a, h => by
    rcases List.mem_cons.1 h with rfl | h
    · refine Int.le_trans ?_ (foldD_ge l _)
      show y.1 ≤ (if a < y.1 then y.1 else a)
      split <;> omega
    · exact foldD_mem (l := l) (y := y) _ h
theorem flat_snd : ∀ (r : Nat) (d d' : Int) (T : Nd), (flatN r d T).map (·.2) = (flatN r d' T).map (·.2)
  | 0, _, _, _ => rfl
  | r + 1, d, d', T => by
    rw [flatN, flatN, List.map_cons, List.map_cons, List.map_flatMap, List.map_flatMap]
    congr 1
    have : (fun X => List.map (·.2) (flatN r (wrap64 (d + 1)) X)) = (fun X => List.map (·.2) (flatN r (wrap64 (d' + 1)) X)) := funext fun X => flat_snd r _ _ X
    rw [this]
theorem ok_depth {r : Nat} {w : World} {B : Sel} {h : Hn} {T : Nd} (hl : Lies w B r T h) (hok : okL (flatN r 0 T) = true) : depthN r T ≤ 64 := by
  apply Classical.byContradiction
  intro hc
  have h1 := (okL_of hok).2
  -- a node that is just 65 deep stands there
  have key : ∀ (r : Nat) (T : Nd) (d : Int) (h : Hn), Lies w B r T h → 0 ≤ d → d ≤ 64 → (∀ y ∈ flatN r d T, y.1 ≤ 64) → d + (depthN r T : Int) ≤ 64 := by
    intro r
    induction r with
    | zero => intro T d h hl; exact hl.elim
    | succ r ih =>
      intro T d h hl hd h64 hy
      obtain ⟨K, t, hh⟩ := hl
      have e1 : wrap64 (d + 1) = d + 1 := by unfold wrap64; omega
      have hk : ∀ X ∈ T.kids, depthN r X + 1 ≤ (64 - d).toNat := by
        intro X hX
        obtain ⟨i, hi⟩ := List.mem_iff_getElem?.1 hX
        have hlx := hh i X hi
        have hin : ∀ y ∈ flatN r (d + 1) X, y.1 ≤ 64 := fun y hyX => hy y (flat_kid hX (by rw [e1]; exact hyX))
        have hd1 : d + 1 ≤ 64 := by
          cases r with
          | zero => exact hlx.elim
          | succ r => exact hin (d + 1, X) (by simp [flatN])
        have := ih X (d + 1) (K i) hlx (by omega) hd1 hin
        omega
      have hf : ∀ (l : List Nd) (a : Nat), (∀ X ∈ l, depthN r X + 1 ≤ (64 - d).toNat) → a ≤ (64 - d).toNat → l.foldl (fun a X => max a (depthN r X + 1)) a ≤ (64 - d).toNat := by
        intro l
        induction l with
        | nil => intro a _ ha; exact ha
        | cons X l ihl =>
          intro a hX ha
          exact ihl _ (fun Y hY => hX Y (by simp [hY])) (Nat.max_le.2 ⟨ha, hX X (by simp)⟩)
      have := hf T.kids 0 hk (by omega)
      rw [depthN]
      omega
  have := key r T 0 h hl (by omega) (by omega) (fun y hy => (h1 y hy).1)
  omega
theorem lies_one {W : World} {R q c : Nat} {T : Nd} {h' : Hn} (k : Int) (tx : ByteArray) (hk : 0 ≤ k ∧ k ≤ 100) (ht : tx.size ≤ 100) (hc : 1 ≤ c) (hq : W.rangeAt q 0 h'.cells) (hl : Lies W A0 R T h') : Lies W A0 (R + 1) (.mk k tx 0 0 [T]) ⟨k, tx, 0, 0, some ⟨q, 0, none⟩, 1, c⟩ := by
  refine ⟨fun _ => h', ⟨rfl, rfl, rfl, rfl, rfl, by simp only; omega, by simp, by simp, by simp only; omega, by simp, hc, ⟨fun h => (by cases h), fun _ => ⟨q, 0, rfl, trivial, lt_of_cell (hq 0 _ rfl), fun h => h.elim, fun i hi => ?_⟩⟩⟩, fun i X hX => ?_⟩
  · obtain rfl : i = 0 := by simp only at hi; omega
    simpa using hq
  · cases i with
    | zero => simp [Nd.kids] at hX; subst hX; exact hl
    | succ i => simp [Nd.kids] at hX
theorem lies_two {W : World} {R q c : Nat} {T U : Nd} {h' g' : Hn} (k : Int) (hk : 0 ≤ k ∧ k ≤ 100) (hc : 2 ≤ c) (hq : W.rangeAt q 0 h'.cells) (hq2 : W.rangeAt q 5 g'.cells) (hl : Lies W A0 R T h') (hm : Lies W A0 R U g') : Lies W A0 (R + 1) (.mk k ⟨#[]⟩ 0 0 [T, U]) ⟨k, ⟨#[]⟩, 0, 0, some ⟨q, 0, none⟩, 2, c⟩ := by
  refine ⟨fun i => if i = 0 then h' else g', ⟨rfl, rfl, rfl, rfl, rfl, by simp only; omega, by simp, by simp, (show (0 : Nat) ≤ 140737488351232 by omega), by simp, hc, ⟨fun h => (by cases h), fun _ => ⟨q, 0, rfl, trivial, lt_of_cell (hq 0 _ rfl), fun h => h.elim, fun i hi => ?_⟩⟩⟩, fun i X hX => ?_⟩
  · rcases (show i = 0 ∨ i = 1 by simp only at hi; omega) with rfl | rfl
    · simpa using hq
    · simpa using hq2
  · rcases i with _ | _ | i
    · simp [Nd.kids] at hX; subst hX; exact hl
    · simp [Nd.kids] at hX; subst hX; exact hm
    · simp [Nd.kids] at hX
/-- A node put around: it is as it should be, if it is not too deep nor too large. -/
theorem ok_around {R : Nat} {w : World} {B : Sel} {h : Hn} {T N : Nd} (rest : List Nd) (hN : N.kids = T :: rest) (hl : Lies w B R T h) (hok : okL (flatN R 0 T) = true) (hd : depthN R T < 64) (hf : formN N = true)
    (hr : ∀ y ∈ rest.flatMap (flatN R 1), y.1 ≤ 64 ∧ formN y.2 = true) (hlen : (flatN R 0 T).length + (rest.flatMap (flatN R 1)).length + 1 ≤ 16384) : okL (flatN (R + 1) 0 N) = true := by
  have e : wrap64 ((0 : Int) + 1) = 1 := by unfold wrap64; omega
  refine okL_yes ?_ (fun y hy => ?_)
  · rw [flatN, e, hN, List.flatMap_cons, List.length_cons, List.length_append, flat_size R 1 T]
    rw [flat_size R 0 T] at hlen
    omega
  · rw [flatN, e, hN, List.flatMap_cons] at hy
    rcases List.mem_cons.1 hy with rfl | hy
    · exact ⟨by show (0 : Int) ≤ 64; omega, hf⟩
    · rcases List.mem_append.1 hy with hy | hy
      · refine ⟨?_, ?_⟩
        · have h1 := foldD_mem 0 hy
          rw [foldD_depth R w B h T 1 hl (by omega) (by omega)] at h1
          omega
        · have h2 : y.2 ∈ (flatN R 1 T).map (·.2) := List.mem_map.2 ⟨y, hy, rfl⟩
          rw [flat_snd R 1 0 T] at h2
          obtain ⟨z, hz, hzy⟩ := List.mem_map.1 h2
          rw [← hzy]
          exact ((okL_of hok).2 z hz).2
      · exact hr y hy
abbrev nodeA (T : Nd) : Nd := .mk 33 ⟨#[45]⟩ 0 0 [T]
abbrev nodeB (T : Nd) : Nd := .mk 39 ⟨#[]⟩ 0 0 [T]
abbrev nodeC (T : Nd) : Nd := .mk 36 ⟨#[]⟩ 0 0 [T, numT 0]
theorem form_a {T : Nd} (h : exK T.k = true) : formN (nodeA T) = true := by
  show (decide ((0 : Int) = 0) && opB ⟨#[45]⟩ 1 && allB [T.k] exK) = true
  rw [opB_A (by simp [opsA]) 1 (by simp [opsN]) (by simp only [opsT, List.mem_cons, List.not_mem_nil, or_false]; decide)]
  unfold allB
  simp [h]
theorem form_b {T : Nd} (h : exK T.k = true) : formN (nodeB T) = true := by
  show (bareB ⟨#[]⟩ 0 && areB [T.k] [exK]) = true
  unfold bareB
  rw [dec_yes ⟨rfl, rfl⟩]
  simp [areB, h]
theorem form_c {T : Nd} (h : exK T.k = true) : formN (nodeC T) = true := by
  have e0 : formN (nodeC T) = (bareB ⟨#[]⟩ 0 && decide (1 < (ksN (nodeC T)).length) && argsB (ksN (nodeC T)) brK) := rfl
  have e1 : bareB ⟨#[]⟩ 0 = true := by unfold bareB; exact dec_yes ⟨rfl, rfl⟩
  have e2 : argsB (ksN (nodeC T)) brK = true := by
    have e3 : argsB (ksN (nodeC T)) brK = (exK T.k && fewB [31] brK) := rfl
    rw [e3, h]
    rfl
  rw [e0, e1, e2]
  rfl
end Go.Proofs.Ytefanekfelokmaa
