/- Helpers of the laws: own copies of rows, rows compared, what any program answers. Condition: the rows lie in memory. -/
import Derived.Test.YtkaeigklhdpifaaA9
import Derived.Test.YtkaeigklhdpifaaN0
namespace Go.Proofs.Ytkaeigklhdpifaa
open Go.RowKit Go.Maps Go.Sort
set_option linter.unusedVariables false
set_option linter.unusedSimpArgs false
theorem rl_of_owns {α : Type} {e : TypeId} {m by_ : Nat} {L : Ly α} (hf : Flat L) {w w0 : World} {S : Sel} {B : Nat} {v : Value} {l : List α} {C : Nat → List Value} (h : w.ownsRow B e m v l.length (flat C l.length)) (hb : l.length * by_ ≤ 140737488351232) (h1 : ∀ i, (C i).length = m ∧ ∀ u ∈ C i, u.oneCell' = true) (hx : ∀ i x, l[i]? = some x → L w0 S x (C i)) : RL e m by_ L w (From B) l v := by
  obtain ⟨ad, c, rfl, hle, ht, _⟩ := tab_of_owns h (fun i => (h1 i).1)
  exact ⟨ad, c, C, rfl, hle, hb, h1, ht, fun i x hi => hf _ _ _ _ _ _ (hx i x hi)⟩
section
variable {w : World} {ops : Array Oper} {rest : List Oper} {a : Act} {Q : Exit → Act → World → Prop}
/-- 'append([]T{}, l...)'. -/
theorem wpList_append_copy {α : Type} {L : Ly α} (hf : Flat L) {d : Tmp} {op : Op} {ty' : TypeId} {pos : String} {af : Array Edge} (s x : Operand) (t : TypeId)
    (hop : op = .call { callee := .builtin .append, args := #[s, x], argTypes := #[t, t] })
    (e : TypeId) (i : TypeInfo) (z : Value) (size bytes : Nat) (ht : Try.prog.underlying t = some (.slice e)) (hi : Try.prog.info? e = some i) (hz : i.zero = some z)
    (hsize : i.size = size) (hby : i.bytes = bytes) (hzs : z.cells.size = size) (hsz : 0 < size) (hb0 : 0 < bytes)
    (g c0 : Nat) (cur : Array Value) (hs : a.eval s = .slice (some ⟨g, 0, none⟩) 0 0) (hg : w.heap[g]? = some (.cells cur e (0, 0))) (hcur : cur.size = 0)
    (B : Nat) (hB : B ≤ g) (w0 : World) (S : Sel) (l : List α) (v : Value) (hx : a.eval x = v) (hl : RL e size bytes L w0 S l v) (hk : Kp w0 w)
    (h : ∀ a' c' w', RL e size bytes L w' (From B) l (.slice a' l.length c') → w.grownBy w' (some g) → wpList Try.prog ops Q rest (a.put (some d) (.slice a' l.length c')) w') : wpList Try.prog ops Q (⟨some d, op, ty', pos, af, none⟩ :: rest) a w := by
  obtain ⟨ad, c, C, rfl, hlc, hby2, hC, htab, hxx⟩ := hl
  have hgl := row_lt hg
  have hcap : l.length * 1 ≤ l.length * bytes := Nat.mul_le_mul_left _ hb0
  refine wpList_append_tab s x t hop B e i z size bytes ht hi hz hsize hby hzs hsz (.slice (some ⟨g, 0, none⟩) 0 0) 0 [] hs ⟨by simp, .inr ⟨g, 0, cur, rfl, hB, hg, Nat.le_refl _, by unfold maxLen; omega, by omega, by simp⟩⟩ w0 S ad l.length c C hx htab hk (fun i => (hC i).1) (fun i => (hC i).2) (by unfold maxLen; omega) (by simp; omega) (by omega) (fun v' w' ho hgr => ?_)
  rw [Nat.zero_add, List.nil_append] at ho
  have hrl := rl_of_owns hf ho hby2 hC hxx
  have hrl2 := hrl
  obtain ⟨a', c', _, rfl, _⟩ := hrl2
  exact h a' c' w' hrl hgr
end
set_option maxHeartbeats 1000000 in
set_option maxRecDepth 100000 in
theorem c_ints (l : List Int) (v : Value) (B : Sel) (w : World) (h : IL w B l v) :
    Calls Try.prog 19 #[v] w fun e w' => ∃ u, e = .returned u ∧ IL w' (From w.heap.size) l u ∧ Kp w w' := by
  obtain ⟨iI, hI, hI0, hI1, hI2⟩ := info_parts infoI
  have HL := Lib.hid h
  clear h
  go_enter Try.func19, Try.ntmps19
  go_wp2_with ((with_reducible show wpList _ _ _ (⟨some 5, _, _, _, _, _⟩ :: _) _ _); refine wpList_append_copy flatI (d := 5) _ _ 33 rfl 3 iI _ 1 8 Try.underlying33 hI hI0 hI1 hI2 rfl (by decide) (by decide) _ 0 #[] (by rfl) (heap_at rfl) rfl w.heap.size (Nat.le_refl _) w B l v (by rfl) HL.out ((Kp.refl w).alloc _) ?_; intro a' c' w' hl' hg'; have HL2 := Lib.hid hl'; have HG2 := Lib.hid hg'; clear hl' hg')
  go_ret
  exact ⟨_, rfl, HL2.out, ((Kp.refl w).alloc _).grown HG2.out (fun k hk => by cases hk; exact Nat.le_refl _)⟩
/-- An index into a row. -/
theorem RL.at1 {w : World} {B : Sel} {l : List Int} {a : Option Addr} {n c : Nat} (h : IL w B l (.slice a n c)) {k : Nat} {x : Int} (hk : l[k]? = some x) : ∃ b q, a = some ⟨b, q, none⟩ ∧ w.cell? ⟨b, q + k, none⟩ = some (.int .i64 x) ∧ b < w.heap.size ∧ i64 x := by
  obtain ⟨ad, c', C, hv, hlc, hby, hC, htab, hx⟩ := h
  cases hv
  have hl := (List.getElem?_eq_some_iff.1 hk).1
  obtain ⟨b, o, ha, hr⟩ := htab.at (by omega)
  obtain ⟨hcr, hir⟩ := hx k x hk
  have hrk := hr k hl
  rw [hcr, Nat.mul_one] at hrk
  have e0 := rangeAt_head hrk
  exact ⟨b, o, ha, e0, lt_of_cell e0, hir⟩
theorem RL.len {w : World} {B : Sel} {l : List Int} {a : Option Addr} {n c : Nat} (h : IL w B l (.slice a n c)) : n = l.length ∧ l.length ≤ 17592186043904 := by
  obtain ⟨ad, c', C, hv, hlc, hby, _⟩ := h
  cases hv
  exact ⟨rfl, by omega⟩
theorem RL.sl {w : World} {B : Sel} {l : List Int} {v : Value} (h : IL w B l v) : ∃ a c, v = .slice a l.length c := by
  obtain ⟨ad, c', C, hv, _⟩ := h
  exact ⟨ad, c', hv⟩
def hasL (l : List Int) (n : Int) : Bool := l.any fun x => x == n
theorem hasL_take {l : List Int} {k : Nat} {x n : Int} (h : l[k]? = some x) : hasL (l.take (k + 1)) n = (hasL (l.take k) n || x == n) := by
  unfold hasL; rw [List.take_add_one, h, List.any_append]; simp
set_option maxHeartbeats 1000000 in
set_option maxRecDepth 100000 in
theorem c_has (l : List Int) (v : Value) (B : Sel) (n : Int) (w : World) (h : IL w B l v) :
    Calls Try.prog 27 #[v, .int .i64 n] w fun e w' => e = .returned (.bool (hasL l n)) ∧ w' = w := by
  obtain ⟨a, c, rfl⟩ := h.sl
  have hll := h.len.2
  have HL := Lib.hid h
  clear h
  go_enter Try.func27, Try.ntmps27
  go_wp2_with fail
  go_loopw [5] (fun i wr => ∃ j : Nat, j ≤ l.length ∧ i = .int .i64 (j : Int) ∧ wr = w ∧ Hid (hasL (l.take j) n = false)) (fun i _ => l.length - (intOf i).toNat)
  case atStart => exact ⟨0, by omega, rfl, rfl, Lib.hid rfl⟩
  case round =>
    obtain ⟨j, hj, rfl, hw, hno⟩ := hrel
    subst hw
    by_cases hlt : j < l.length
    · obtain ⟨x, hx⟩ : ∃ x, l[j]? = some x := ⟨_, List.getElem?_eq_getElem hlt⟩
      obtain ⟨b, q, rfl, e0, eb, _⟩ := HL.out.at1 hx
      have HX := Lib.hid hx
      clear hx
      by_cases he : x = n
      · subst he
        go_wp2_with fail
        go_ret
        refine ⟨?_, rfl⟩
        have : hasL l x = true := by unfold hasL; rw [List.any_eq_true]; exact ⟨x, List.mem_of_getElem? HX.out, by simp⟩
        rw [this]; rfl
      · have hne : (x == n) = false := by simpa using he
        go_wp2_with fail
        go_roundw
        case rel => exact ⟨j + 1, by omega, by go_num, trivial, Lib.hid (by rw [hasL_take HX.out, hno.out, hne]; rfl)⟩
        case measure => simp [intOf]; omega
    · have : j = l.length := by omega
      subst this
      go_wp2_with fail
      go_ret
      refine ⟨?_, rfl⟩
      have := hno.out
      rw [List.take_of_length_le (Nat.le_refl _)] at this
      rw [this]; rfl
def sameZ (l m : List Int) : Bool := decide (l = m)
set_option maxHeartbeats 1000000 in
set_option maxRecDepth 100000 in
theorem c_SameInts (l m : List Int) (v u : Value) (B B' : Sel) (w : World) (h : IL w B l v) (h' : IL w B' m u) :
    Calls Try.prog 25 #[v, u] w fun e w' => e = .returned (.bool (sameZ l m)) ∧ Kp w w' := by
  obtain ⟨a, c, rfl⟩ := h.sl
  obtain ⟨a', c', rfl⟩ := h'.sl
  have hll := h.len.2
  have hlm := h'.len.2
  have HL := Lib.hid h
  have HM := Lib.hid h'
  clear h h'
  go_enter Try.func25, Try.ntmps25
  by_cases hle : l.length = m.length
  · have HLE := Lib.hid hle
    have hb : ((l.length : Int) == (m.length : Int)) = true := by rw [hle]; simp
    have hb2 : ((l.length : Int) != (m.length : Int)) = false := by rw [hle]; simp
    clear hle
    go_wp2_with fail
    go_loopw [5] (fun i wr => ∃ j : Nat, j ≤ l.length ∧ i = .int .i64 (j : Int) ∧ Kp w wr ∧ Hid (l.take j = m.take j)) (fun i _ => l.length - (intOf i).toNat)
    case atStart => exact ⟨0, by omega, rfl, Kp.refl _, Lib.hid rfl⟩
    case round =>
      obtain ⟨j, hj, rfl, hkp, hno⟩ := hrel
      by_cases hlt : j < l.length
      · obtain ⟨x, hx⟩ : ∃ x, l[j]? = some x := ⟨_, List.getElem?_eq_getElem hlt⟩
        have hlt2 : j < m.length := by have := HLE.out; omega
        obtain ⟨y, hy⟩ : ∃ y, m[j]? = some y := ⟨_, List.getElem?_eq_getElem hlt2⟩
        obtain ⟨b, q, rfl, e0, eb, _⟩ := RL.at1 (HL.out.keep goodI hkp) hx
        obtain ⟨b2, q2, rfl, f0, fb, _⟩ := RL.at1 (HM.out.keep goodI hkp) hy
        have HX := Lib.hid hx
        have HY := Lib.hid hy
        have KW := Lib.hid hkp
        clear hx hy hkp
        by_cases he : x = y
        · subst he
          have hbe : (x != x) = false := by simp
          go_wp2_with fail
          go_region_held3 (fun w' : World => w'.cell? ⟨b, q + j, none⟩ = some (.int .i64 x) ∧ w'.cell? ⟨b2, q2 + j, none⟩ = some (.int .i64 x)) (exact ⟨e0, f0⟩) (fail)
          go_wp2_with fail
          go_roundw
          case rel => exact ⟨j + 1, by omega, by go_num, KW.out.drew, Lib.hid (by rw [List.take_add_one, List.take_add_one, hno.out, HX.out, HY.out])⟩
          case measure => simp [intOf]; omega
        · have hbe : (x == y) = false := by simpa using he
          have hbn : (x != y) = true := by simpa using he
          go_wp2_with fail
          go_region_held3 (fun w' : World => w'.cell? ⟨b, q + j, none⟩ = some (.int .i64 x) ∧ w'.cell? ⟨b2, q2 + j, none⟩ = some (.int .i64 y)) (exact ⟨e0, f0⟩) (fail)
          go_wp2_with fail
          go_ret
          have hs : sameZ l m = false := by
            unfold sameZ
            rw [decide_eq_false_iff_not]
            intro e
            subst e
            have := HX.out.symm.trans HY.out
            exact he (Option.some.inj this)
          exact ⟨by rw [hs]; rfl, KW.out.drew⟩
      · have : j = l.length := by omega
        subst this
        have KW := Lib.hid hkp
        clear hkp
        go_wp2_with fail
        go_ret
        have h1 := hno.out
        rw [List.take_of_length_le (Nat.le_refl _), List.take_of_length_le (by have := HLE.out; omega)] at h1
        have hs : sameZ l m = true := by unfold sameZ; rw [h1]; simp
        exact ⟨by rw [hs]; rfl, KW.out⟩
  · have hb : ((l.length : Int) == (m.length : Int)) = false := by simpa using (fun e : (l.length : Int) = m.length => hle (by omega))
    have hb2 : ((l.length : Int) != (m.length : Int)) = true := by simpa using (fun e : (l.length : Int) = m.length => hle (by omega))
    have HLE := Lib.hid hle
    clear hle
    go_wp2_with fail
    go_ret
    have hs : sameZ l m = false := by
      unfold sameZ
      rw [decide_eq_false_iff_not]
      intro e
      subst e
      exact HLE.out rfl
    exact ⟨by rw [hs]; rfl, Kp.refl _⟩
theorem alloc_first : allocP 9 [] [true, false] [] = ([newOb 0 [true, false]], 1, 0) := by
  unfold allocP made
  simp [knownR, used, pre, ins]
theorem bo_two (w : World) (B : Sel) (hB : B.le (From w.heap.size)) : BoL (w.alloc (.cells #[.bool true, .bool false] 4)) B [true, false] (.slice (some ⟨w.heap.size, 0, none⟩) 2 2) := by
  have h : (w.alloc (.cells #[.bool true, .bool false] 4)).ownsRow w.heap.size 4 1 (.slice (some ⟨w.heap.size, 0, none⟩) 2 2) 2 (flat (fun i => if i = 0 then [Value.bool true] else [.bool false]) 2) :=
    ⟨rfl, .inr ⟨w.heap.size, 2, _, rfl, Nat.le_refl _, heap_at rfl, Nat.le_refl _, by unfold maxLen; omega, rfl, rfl⟩⟩
  refine RL.weak goodBo (rl_of_owns (l := [true, false]) (L := LBo) (by_ := 1) (S := A0) (w0 := w) flatBo h (by decide) (fun i => ?_) (fun i x hx => ?_)) hB
  · by_cases hi : i = 0
    · subst hi; exact ⟨rfl, by intro u hu; simp at hu; subst hu; rfl⟩
    · simp only [if_neg hi]; exact ⟨rfl, by intro u hu; simp at hu; subst hu; rfl⟩
  · match i with
    | 0 => simp at hx; subst hx; rfl
    | 1 => simp at hx; subst hx; rfl
    | (i + 2) => simp at hx
theorem c_AllocFirst (p : Nat) (N : Nat → Prop) (w1 : World) (h1 : HP w1 N p 9 []) :
    Calls Try.prog 18 #[.pointer (some ⟨p, 0, none⟩), .slice (some ⟨w1.heap.size, 0, none⟩) 2 2, .slice none 0 0] (w1.alloc (.cells #[.bool true, .bool false] 4)) fun e w' => e = .returned (.tuple #[.int .i64 1, .int .i64 0]) ∧ ∃ N', HP w' N' p 9 [newOb 0 [true, false]] ∧ Tr N (w1.alloc (.cells #[.bool true, .bool false] 4)) w' := by
  have hb := bo_two w1 (From w1.heap.size) ⟨fun h => h, fun b h => h⟩
  have h := c_Alloc [true, false] _ (From w1.heap.size) [] (.slice none 0 0) A0 _ (h1.keep ((Kp.refl w1).alloc (.cells #[.bool true, .bool false] 4))) (Ok.nil (by decide)) hb (fun b (hb : w1.heap.size ≤ b) hN => by have := h1.lt b hN; omega) (il_nil _ _)
  rw [alloc_first] at h
  refine h.mono ?_
  rintro e w' ⟨rfl, N', g1, g2, _⟩
  exact ⟨rfl, N', g1, g2⟩
set_option maxHeartbeats 1000000 in
set_option maxRecDepth 100000 in
theorem c_answers (w : World) : Calls Try.prog 12 #[] w fun e w' => e = .returned (.bool true) ∧ Kp w w' := by
  go_enter Try.func12, Try.ntmps12
  go_wp2_with (first
    | (go_at_call 10; (with_reducible refine (c_New 9 w (by decide) (by decide)).mono ?_); rintro e w1 ⟨p, N, rfl, h1, h2, h3⟩; have H1 : Hid (HP w1 N p 9 []) := Lib.hid h1; have H2 := Lib.hid h2; have H3 := Lib.hid h3; clear h1 h2 h3)
    | (go_at_call 18; (with_reducible refine (c_AllocFirst p N w1 H1.out).mono ?_); rintro e w2 ⟨rfl, N', g1, g2⟩; have G1 := Lib.hid g1; have G2 := Lib.hid g2; clear g1 g2)
    | (go_at_call 29; (with_reducible refine (c_Used w2 G1.out).mono ?_); rintro e w' ⟨rfl, hw'⟩; rw [hw']; clear hw' w'))
  go_ret
  refine ⟨rfl, ?_⟩
  exact (G2.out.old (H3.out.alloc _) H2.out)
end Go.Proofs.Ytkaeigklhdpifaa
