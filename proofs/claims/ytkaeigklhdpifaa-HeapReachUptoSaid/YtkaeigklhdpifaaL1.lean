/- A look into the map of objects, and functions that only look. Condition: the heap lies in memory. -/
import Derived.Test.YtkaeigklhdpifaaL0
namespace Go.Proofs.Ytkaeigklhdpifaa
open Go.RowKit Go.Maps Go.Sort
set_option linter.unusedVariables false
set_option linter.unusedSimpArgs false
theorem zeroS (w : World) : (zeroValue 72).run Try.prog w = .ok (.slice none 0 0) w := Try.zeroValue72 w
section
variable {w : World} {ops : Array Oper} {rest : List Oper} {a : Act} {Q : Exit → Act → World → Prop}
theorem get_val {D : DV} {F : Int → Option Value} (hD : MapIs D F) {k : Int} {v : Value} {ps : List MemPlace} (hv : RS v = some (D.atKey (.int .i64 k) (.held (.slice none 0 0)), ps)) : v = (F k).getD (.slice none 0 0) := by
  obtain ⟨_, he⟩ := RS_inv hv
  have h1 := congrArg Prod.fst he
  dsimp only at h1
  cases hF : F k with
  | none => rw [hD.none hF] at h1; cases h1; rfl
  | some u => rw [hD.at' k u hF] at h1; cases h1; rfl
theorem wpList_get_ok {d : Tmp} {op : Op} {ty : TypeId} {pos : String} {af : Array Edge} (m x : Operand) (hop : op = Op.lookup 69 m x true)
    (mb : Nat) (D : DV) (F : Int → Option Value) (hm : a.eval m = .map (some mb)) (hown : OM RS w mb D) (hD : MapIs D F) (k : Int) (hx : a.eval x = .int .i64 k) (hk : i64 k)
    (hK : wpList Try.prog ops Q rest (a.put (some d) (.tuple #[(F k).getD (.slice none 0 0), .bool (F k).isSome])) w) :
    wpList Try.prog ops Q (⟨some d, op, ty, pos, af, none⟩ :: rest) a w := by
  subst hop
  refine wpList_lookup_own_ok w rfl m x _ rfl 3 72 KI Try.underlying69 RS (zeroS w) (.held (.slice none 0 0)) [] rfl mb _ D hm hown _ _ hx (keyI hk) (fun v ps hv => ?_)
  rw [get_val hD hv, hD.hs]
  exact hK
set_option maxRecDepth 100000 in
theorem wpList_get {d : Tmp} {op : Op} {ty : TypeId} {pos : String} {af : Array Edge} (m x : Operand) (hop : op = Op.lookup 69 m x false)
    (mb : Nat) (D : DV) (F : Int → Option Value) (hm : a.eval m = .map (some mb)) (hown : OM RS w mb D) (hD : MapIs D F) (k : Int) (hx : a.eval x = .int .i64 k) (hk : i64 k)
    (hK : wpList Try.prog ops Q rest (a.put (some d) ((F k).getD (.slice none 0 0))) w) :
    wpList Try.prog ops Q (⟨some d, op, ty, pos, af, none⟩ :: rest) a w := by
  subst hop
  refine wpList_plain rfl fun K' hK' => ?_
  obtain ⟨v, ps, hrun, hv⟩ := World.ownsMap.lookup hown KI Try.underlying69 (zeroS w) (zd := .held (.slice none 0 0)) (zp := []) rfl (keyI hk)
  unfold Oper.wp
  simp [execOp, hm, hx, hrun, Result.andThen]
  have := get_val hD hv
  subst this
  exact hK' _ _ hK
end
theorem Ok.small {S : Hs} {bud : Nat} (h : Ok S bud) {k : Int} (hk : 65536 < k) : hasN S k = false := hasN_false.2 fun o ho e => by have := (h.pos o ho).2; omega
theorem Ok.neg {S : Hs} {bud : Nat} (h : Ok S bud) {k : Int} (hk : k ≤ 0) : hasN S k = false := hasN_false.2 fun o ho e => by have := (h.pos o ho).1; omega
set_option maxHeartbeats 1000000 in
set_option maxRecDepth 100000 in
theorem c_room (n : Int) (w : World) (h : 0 ≤ n ∧ n ≤ 1152921504606846976) : Calls Try.prog 43 #[.int .i64 n] w fun e w' => e = .returned (.int .i64 (n + 1)) ∧ w' = w := by
  go_enter Try.func43, Try.ntmps43
  go_wp2_with fail
  go_ret
  exact ⟨by go_num, rfl⟩
set_option maxHeartbeats 1000000 in
set_option maxRecDepth 100000 in
theorem c_isName {N : Nat → Prop} {p bud : Nat} {S : Hs} (n : Int) (w : World) (h : HP w N p bud S) (ok : Ok S bud) (hn : 0 ≤ n ∧ n ≤ 18446744073709551615) :
    Calls Try.prog 50 #[.pointer (some ⟨p, 0, none⟩), .int .u64 n] w fun e w' => e = .returned (.bool (hasN S n)) ∧ w' = w := by
  obtain ⟨np, lt, tk, mb, D, F, h1, h2, h3, h4, h5, h6, h7, h8⟩ := h
  obtain ⟨c0, c1, c2, c3⟩ := row4 h1
  have hz : p < w.heap.size := lt p np
  have H5 := Lib.hid h5
  have H6 := Lib.hid h6
  have H8 := Lib.hid h8
  have HO := Lib.hid ok
  clear h1 h2 h3 h4 h5 h6 h7 h8 ok lt np
  go_enter Try.func50, Try.ntmps50
  by_cases hb : 65536 < n
  · go_wp2_with fail
    go_ret
    exact ⟨by rw [HO.out.small hb]; rfl, rfl⟩
  · have hi : i64 n := by unfold i64; omega
    go_wp2_with ((with_reducible show wpList _ _ _ (⟨some 16, _, _, _, _, _⟩ :: _) _ _); refine wpList_get_ok (d := 16) _ _ rfl mb D F (by rfl) H5.out H6.out n (by rfl) hi ?_)
    go_ret
    exact ⟨by rw [H8.out.dom]; rfl, rfl⟩
/-- What the two cells of an object's cell hold, and where. -/
theorem CV.at {w : World} {l : List (Int × Bool)} {v : Value} (h : CV w l v) {i : Nat} {c : Int × Bool} (hc : l[i]? = some c) : ∃ g cap, v = .slice (some ⟨g, 0, none⟩) l.length cap ∧ w.cell? ⟨g, i * 2, none⟩ = some (.int .u64 c.1) ∧ w.cell? ⟨g, i * 2 + 1, none⟩ = some (.bool c.2) ∧ (∀ j, w.frozen? ⟨g, j, none⟩ = false) ∧ g < w.heap.size ∧ v.ownBlock = some g := by
  obtain ⟨hl, ⟨rfl, h0⟩ | ⟨g, cap, cur, rfl, hB, hg, h1, h2, h3, h4⟩⟩ := h
  · have := (List.getElem?_eq_some_iff.1 hc).1; omega
  · obtain ⟨e1, e2⟩ := cellsV_at l i c hc
    have hi := (List.getElem?_eq_some_iff.1 hc).1
    rw [← h4, List.getElem?_take] at e1 e2
    rw [if_pos (by omega)] at e1 e2
    refine ⟨g, cap, rfl, ?_, ?_, fun j => frozen_of_row _ _ j _ _ hg, row_lt hg, rfl⟩
    · rw [cell_of_row w g _ cur _ (0, 0) hg]; simpa using e1
    · rw [cell_of_row w g _ cur _ (0, 0) hg]; simpa using e2
def optV (F : Int → Option Value) (k : Int) : Value := (F k).getD (.slice none 0 0)
def has15 (b : Bool) : Int := if b then 0 else 15
theorem CV.set {w : World} {l : List (Int × Bool)} {v : Value} (h : CV w l v) {i g : Nat} (hi : i < l.length) (hg : v.ownBlock = some g) (n : Int) : CV (w.setCell ⟨g, i * 2, none⟩ (.int .u64 n)) (l.modify i fun c => (n, c.2)) v := by
  obtain ⟨hl, ⟨rfl, h0⟩ | ⟨gb, cap, cur, rfl, hB, hb, h1, h2, h3, h4⟩⟩ := h
  · cases hg
  · obtain rfl : gb = g := by simpa [Value.ownBlock] using hg
    have hs := heap_setCell_same w gb (i * 2) _ _ (.int .u64 n) hb
    refine ⟨by rw [cellsV_len, List.length_modify], .inr ⟨gb, cap, _, by rw [List.length_modify], Nat.zero_le _, hs, by rw [List.length_modify]; exact h1, h2, by simpa using h3, ?_⟩⟩
    rw [List.length_modify, Array.toList_setIfInBounds, List.take_set, h4, cellsV_set l i n hi]
theorem setC_len (S : Hs) (k : Int) (i : Nat) (n : Int) : (setC S k i n).length = S.length := by simp [setC]
theorem HP.upd {w : World} {N : Nat → Prop} {p bud mb : Nat} {S : Hs} {tk : Int} {D : DV} {F : Int → Option Value} (ok : Ok S bud) (np : N p) (lt : ∀ k, N k → k < w.heap.size)
    (h1 : w.heap[p]? = some (.cells #[.int .i64 (bud : Int), .int .i64 (used S : Int), .int .i64 tk, .map (some mb)] 71 (0, 0))) (h2 : N mb) (h3 : mb ≠ p) (h4 : Tk S tk) (h5 : OM RS w mb D) (h6 : MapIs D F) (h7 : Maps.size D = S.length) (h8 : HO w N p mb S F)
    {o : Int} {b : Ob} {u : Value} {g i : Nat} (hb : getN S o = some b) (hu : F o = some u) (hg : u.ownBlock = some g) (hi : i < b.cs.length) (n : Int) : HP (w.setCell ⟨g, i * 2, none⟩ (.int .u64 n)) N p bud (setC S o i n) := by
  obtain ⟨hbm, hbn⟩ := getN_some hb
  obtain ⟨g1, g2, g3⟩ := h8.inN o u g hu hg
  have hset : ∀ j, j ≠ g → (w.setCell ⟨g, i * 2, none⟩ (.int .u64 n)).heap[j]? = w.heap[j]? := fun j hj => Below.heap_setCell _ _ _ _ hj
  refine ⟨np, fun k hk => by rw [World.size_setCell]; exact lt k hk, tk, mb, D, F, ?_, h2, h3, ⟨h4.1, h4.2.1, fun j a b => by rw [setC_has]; exact h4.2.2 j a b⟩, h5.turn (hset mb (Ne.symm g3)), h6, by rw [setC_len]; exact h7, ⟨fun k => by rw [setC_has]; exact h8.dom k, fun x hx => ?_, h8.inN, h8.ap⟩⟩
  · rw [hset p (Ne.symm g2), setC_used]; exact h1
  · obtain ⟨y, hy, e1, e2, (⟨e3, rfl⟩ | ⟨e3, e4⟩)⟩ := setC_mem hx
    · obtain ⟨v, hv1, hv2⟩ := h8.ob _ hy
      exact ⟨v, hv1, hv2.turn (fun j hj => hset j (fun e => by subst e; exact h8.ap _ _ _ _ _ e3 hv1 hu hj hg))⟩
    · obtain ⟨v, hv1, hv2⟩ := h8.ob y hy
      obtain rfl := ok.uniq hy hbm (e3.trans hbn.symm)
      rw [hbn, hu] at hv1
      cases hv1
      rw [e1, hbn, e4]
      exact ⟨u, hu, hv2.set hi hg n⟩
/-- What object answers: the slice that the map has. -/
structure ObV (w : World) (N : Nat → Prop) (p bud : Nat) (S : Hs) (o : Int) (v : Value) : Prop where
  yes : ∀ b, getN S o = some b → CV w b.cs v ∧ (∀ g, v.ownBlock = some g → N g ∧ g ≠ p) ∧ ∀ g i n, v.ownBlock = some g → i < b.cs.length → HP (w.setCell ⟨g, i * 2, none⟩ (.int .u64 n)) N p bud (setC S o i n)
  no : getN S o = none → v = .slice none 0 0
set_option maxHeartbeats 1000000 in
set_option maxRecDepth 100000 in
theorem c_object {N : Nat → Prop} {p bud : Nat} {S : Hs} (o : Int) (w : World) (h : HP w N p bud S) (ok : Ok S bud) (ho : i64 o) :
    Calls Try.prog 44 #[.pointer (some ⟨p, 0, none⟩), .int .i64 o] w fun e w' => ∃ v, e = .returned (.tuple #[v, .int .i64 (has15 (hasN S o))]) ∧ ObV w N p bud S o v ∧ w' = w := by
  obtain ⟨np, lt, tk, mb, D, F, h1, h2, h3, h4, h5, h6, h7, h8⟩ := h
  obtain ⟨c0, c1, c2, c3⟩ := row4 h1
  have hz : p < w.heap.size := lt p np
  have H5 := Lib.hid h5
  have H6 := Lib.hid h6
  have H8 := Lib.hid h8
  have hd := h8.dom o
  have HU := Lib.hid (fun (b : Ob) (u : Value) (g i : Nat) => HP.upd (b := b) (u := u) (g := g) (i := i) (o := o) ok np lt h1 h2 h3 h4 h5 h6 h7 h8)
  clear h1 h2 h3 h4 h5 h6 h7 h8 lt np ok
  go_enter Try.func44, Try.ntmps44
  cases hF : F o with
  | none =>
    have hno : hasN S o = false := by rw [← hd, hF]; rfl
    have hHN := Lib.hid hno
    have hFH := Lib.hid hF
    clear hF hd hno
    go_wp2_with ((with_reducible show wpList _ _ _ (⟨some 16, _, _, _, _, _⟩ :: _) _ _); refine wpList_get_ok (d := 16) _ _ rfl mb D F (by rfl) H5.out H6.out o (by rfl) ho ?_; rw [hFH.out])
    go_ret2
    exact ⟨_, by rw [hHN.out]; rfl, ⟨fun b hb => (by rw [getN_none.2 hHN.out] at hb; cases hb), fun _ => rfl⟩, rfl⟩
  | some u =>
    have hno : hasN S o = true := by rw [← hd, hF]; rfl
    have hHN := Lib.hid hno
    have hFH := Lib.hid hF
    clear hF hd hno
    go_wp2_with ((with_reducible show wpList _ _ _ (⟨some 16, _, _, _, _, _⟩ :: _) _ _); refine wpList_get_ok (d := 16) _ _ rfl mb D F (by rfl) H5.out H6.out o (by rfl) ho ?_; rw [hFH.out])
    go_ret2
    refine ⟨u, by rw [hHN.out]; rfl, ⟨fun b hb => ?_, fun hb => ?_⟩, rfl⟩
    · obtain ⟨h1, rfl⟩ := getN_some hb
      obtain ⟨v, h2, h3⟩ := H8.out.ob b h1
      rw [hFH.out] at h2
      cases h2
      exact ⟨h3, fun g hg => (by obtain ⟨x, y, _⟩ := H8.out.inN _ _ g hFH.out hg; exact ⟨x, y⟩), fun g i n hg hi => HU.out b u g i hb hFH.out hg hi n⟩
    · rw [getN_none.1 hb] at hHN; cases hHN.out
theorem c_objectN (o : Int) (w : World) : Calls Try.prog 44 #[.pointer none, .int .i64 o] w fun e w' => e = .returned (.tuple #[.slice none 0 0, .int .i64 2]) ∧ w' = w := by
  go_enter Try.func44, Try.ntmps44
  go_wp2_with fail
  go_ret2
  exact ⟨rfl, rfl⟩
end Go.Proofs.Ytkaeigklhdpifaa
