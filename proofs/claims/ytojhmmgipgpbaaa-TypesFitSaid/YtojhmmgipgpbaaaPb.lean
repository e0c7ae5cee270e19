/- Params of package types, whole. Condition: the type lies in memory. -/
import Derived.Test.YtojhmmgipgpbaaaPa
namespace Go.Proofs.Ytojhmmgipgpbaaa
open Go.RowKit
set_option linter.unusedVariables false
set_option linter.unusedSimpArgs false

theorem rowS.base {w : World} {b b' : Nat} {v : Value} {L : List ByteArray} (h : rowS w b v L) (hb : b' ≤ b) : rowS w b' v L := by
  refine ⟨h.1, ?_⟩
  rcases h.2 with hv | ⟨g, cap, cur, hv, hg0, rest⟩
  · exact .inl hv
  · exact .inr ⟨g, cap, cur, hv, by omega, rest⟩
theorem heap_new4 (w : World) (o1 o2 o3 o4 : Obj) : ((((w.alloc o1).alloc o2).alloc o3).alloc o4).heap[w.heap.size]? = some o1 ∧ ((((w.alloc o1).alloc o2).alloc o3).alloc o4).heap[w.heap.size + 1]? = some o2 ∧ ((((w.alloc o1).alloc o2).alloc o3).alloc o4).heap[w.heap.size + 1 + 1]? = some o3 ∧ ((((w.alloc o1).alloc o2).alloc o3).alloc o4).heap[w.heap.size + 1 + 1 + 1]? = some o4 := by
  have s1 : (w.alloc o1).heap.size = w.heap.size + 1 := World.size_alloc _ _
  have s2 : ((w.alloc o1).alloc o2).heap.size = w.heap.size + 1 + 1 := by rw [World.size_alloc, s1]
  have s3 : (((w.alloc o1).alloc o2).alloc o3).heap.size = w.heap.size + 1 + 1 + 1 := by rw [World.size_alloc, s2]
  have k1 := ((Kp.refl (w.alloc o1)).alloc o2 |>.alloc o3 |>.alloc o4)
  have k2 := ((Kp.refl ((w.alloc o1).alloc o2)).alloc o3 |>.alloc o4)
  have k3 := ((Kp.refl (((w.alloc o1).alloc o2).alloc o3)).alloc o4)
  refine ⟨(k1.blk (by omega)).trans (heap_alloc_new _ _), ?_, ?_, ?_⟩
  · exact (k2.blk (b := w.heap.size + 1) (by omega)).trans (show ((w.alloc o1).alloc o2).heap[w.heap.size + 1]? = some o2 by rw [← s1]; exact heap_alloc_new _ _)
  · exact (k3.blk (b := w.heap.size + 1 + 1) (by omega)).trans (show (((w.alloc o1).alloc o2).alloc o3).heap[w.heap.size + 1 + 1]? = some o3 by rw [← s2]; exact heap_alloc_new _ _)
  · rw [← s3]; exact heap_alloc_new _ _
theorem ps_at (w : World) : PS ((((w.alloc (.cells #[.slice none 0 0] 41)).alloc (.map #[] 0)).alloc (.cells #[.map (some (w.heap.size + 1))] 77)).alloc (.cells #[.func (.func 45) #[] #[.pointer (some ⟨w.heap.size + 1 + 1, 0, none⟩), .pointer (some ⟨w.heap.size, 0, none⟩), .pointer (some ⟨w.heap.size + 1 + 1 + 1, 0, none⟩)]] 58)) w.heap.size (w.heap.size + 1) (w.heap.size + 1 + 1) (w.heap.size + 1 + 1 + 1) (.slice none 0 0) [] := by
  obtain ⟨b1, b2, b3, b4⟩ := heap_new4 w (.cells #[.slice none 0 0] 41) (.map #[] 0) (.cells #[.map (some (w.heap.size + 1))] 77) (.cells #[.func (.func 45) #[] #[.pointer (some ⟨w.heap.size + 1 + 1, 0, none⟩), .pointer (some ⟨w.heap.size, 0, none⟩), .pointer (some ⟨w.heap.size + 1 + 1 + 1, 0, none⟩)]] 58)
  refine ⟨rowS_nil _ _, b1, ?_, by rw [cell_of_row _ _ _ _ _ _ b3]; rfl, by rw [cell_of_row _ _ _ _ _ _ b4]; rfl, by omega, by omega, by omega, notS_of b3 (by decide), notS_of b4 (by decide)⟩
  rw [seenL_nil]
  have h1 := mapIs_made (w.alloc (.cells #[.slice none 0 0] 41)) Try.prog 9
  rw [World.size_alloc] at h1
  exact (h1.alloc _).alloc _
theorem par_bad (R : Nat) (T : Ty) (h : Hd) (w : World) (hl : Lies w A0 R T h) (hs : (look 9 T).2.2 = false) :
    Calls Try.prog 22 #[h.val] w fun e w' => e = .returned (.tuple #[.slice none 0 0, .int .i64 1]) ∧ Kp w w' := by
  have HL := Lib.hid hl
  have HS := Lib.hid hs
  clear hl hs
  go_enter Try.func22, Try.ntmps22
  go_wp2_with (first | (go_at_call 12; (with_reducible refine (c_Check R T h _ (HL.out.keep ((Kp.refl w).alloc _))).mono ?_); rintro e w2 ⟨rfl, hk2⟩; rw [HS.out, show ef false = 1 from rfl]))
  go_ret2
  exact ⟨rfl, ((Kp.refl w).alloc _).trans hk2⟩
set_option maxHeartbeats 3200000 in
set_option maxRecDepth 100000 in
theorem par_good (R : Nat) (T : Ty) (h : Hd) (w : World) (hl : Lies w A0 R T h) (hs : (look 9 T).2.2 = true) :
    Calls Try.prog 22 #[h.val] w fun e w' => ∃ v', e = .returned (.tuple #[v', .int .i64 0]) ∧ rowS w' w.heap.size v' (holes 9 T []) ∧ Kp w w' := by
  have HL := Lib.hid hl
  have HS := Lib.hid hs
  have HB9 := Lib.hid (show ([] : List ByteArray).length + HB 9 ≤ 8796093022208 by have := HB_9; simpa using this)
  clear hl hs
  have hmm := @run_makeMap Try.prog
  go_enter Try.func22, Try.ntmps22
  go_wp2_with (first | (go_at_call 12; (with_reducible refine (c_Check R T h _ (HL.out.keep ((Kp.refl w).alloc _))).mono ?_); rintro e w2 ⟨rfl, hk2⟩; rw [HS.out, show ef true = 0 from rfl]; have K2 := Lib.hid (((Kp.refl w).alloc _).trans hk2); obtain ⟨q0, q1, q2, q3, q4, q5, qs⟩ := boxed (h := h) hk2; have ql : w.heap.size < w2.heap.size := qs; have qa : w.heap.size ≤ w2.heap.size := (by omega); have qb : w.heap.size < w2.heap.size + 1 := (by omega); have qc : w.heap.size < w2.heap.size + 2 := (by omega); have qd : w.heap.size < w2.heap.size + 3 := (by omega); have qe : w.heap.size ≤ w2.heap.size + 1 := (by omega); have qf : w.heap.size ≤ w2.heap.size + 2 := (by omega); have qg : w.heap.size < w2.heap.size + 1 + 1 := (by omega); have qh : w.heap.size < w2.heap.size + 1 + 1 + 1 := (by omega)) | (go_at_call 45; (with_reducible refine (c_walkP w2.heap.size (w2.heap.size + 1) (w2.heap.size + 1 + 1) (w2.heap.size + 1 + 1 + 1) 9 R T h _ (.slice none 0 0) [] (ps_at w2) (Lies.keep ((((((Kp.refl w2).alloc _).alloc _).alloc _).alloc _)) (lowS_of (HL.out.keep K2.out) (Nat.le_refl _))) HS.out HB9.out).mono ?_); rintro e w4 ⟨rfl, v4, hp4, hg4⟩; obtain ⟨n1, n2⟩ := hp4.nbc))
  go_ret2
  exact ⟨v4, rfl, hp4.row.base (by have := K2.out.sz; omega), hg4.kp (K2.out.trans ((((((Kp.refl w2).alloc _).alloc _).alloc _).alloc _))) (by have := K2.out.sz; omega)⟩
end Go.Proofs.Ytojhmmgipgpbaaa
