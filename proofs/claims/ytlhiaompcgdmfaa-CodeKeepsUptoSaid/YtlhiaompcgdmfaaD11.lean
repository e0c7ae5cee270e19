/- What Decode of the program answers. Condition: none. -/
import Derived.Test.YtlhiaompcgdmfaaD10
namespace Go.Proofs.Ytlhiaompcgdmfaa
open Go.RowKit
set_option linter.unusedVariables false
set_option linter.unusedSimpArgs false
/-- What comes of bytes: the module, where the fault is, and which. -/
def decR (l : List UInt8) : Mo × Int × Int := if 1048576 < l.length then (⟨[], []⟩, 0, 6) else match decP l with
  | .error q => (⟨[], []⟩, (q : Int), 5)
  | .ok m => (m, 0, 0)
def DecP (l : List UInt8) (w : World) (e : Ending) (w' : World) : Prop :=
  ∃ (x : Mo) (a1 : Option Addr) (c1 : Nat) (a2 : Option Addr) (c2 : Nat) (at' er : Int), e = .returned (.tuple #[.agg #[.slice a1 x.ty.length c1, .slice a2 x.fu.length c2], .int .i64 at', .int .i64 er]) ∧ Kp w w' ∧
    SL w' (From w.heap.size) x.ty (.slice a1 x.ty.length c1) ∧ FL w' (From w.heap.size) x.fu (.slice a2 x.fu.length c2) ∧ decR l = (x, at', er)
theorem ret_dec {fn : Func} {R : Ending → World → Prop} {a : Act} {w : World} {g n1 n2 k1 k2 : Nat} {b1 b2 : Option Addr} {u v : Value} (hfn : fn.results = #[ResultVar.cell 2 25, ResultVar.tmp 3, ResultVar.tmp 4]) (h2 : a.tmps[2]? = some (.pointer (some ⟨g, 0, none⟩))) (h3 : a.tmps[3]? = some v) (h4 : a.tmps[4]? = some u)
    (c0 : w.cell? ⟨g, 0, none⟩ = some (.slice b1 n1 k1)) (c1 : w.cell? ⟨g, 1, none⟩ = some (.slice b2 n2 k2)) (hd : a.defers = [])
    (hR : R (.returned (.tuple #[.agg #[.slice b1 n1 k1, .slice b2 n2 k2], v, u])) w) : bodyPost Try.prog fn R .ret a w := by
  refine bodyPost_ret (by simp [results, hfn, go_sem, h2, h3, h4, c0, c1]; try rfl) hd hR
theorem sl_nil (w : World) (B : Sel) : SL w B [] (.slice none 0 0) := by
  exact ⟨none, 0, fun _ => [.int .i64 0, .int .i64 0, .int .i64 0], rfl, Nat.le_refl _, by simp, fun i => ⟨rfl, by intro u hu; simp at hu; rcases hu with rfl | rfl | rfl <;> rfl⟩, ⟨fun h => ⟨rfl, rfl⟩, fun h => by simp at h⟩, fun i x hx => by simp at hx⟩
theorem fl_nil (w : World) (B : Sel) : FL w B [] (.slice none 0 0) := by
  exact ⟨none, 0, fun _ => [.int .i64 0, .int .i64 0, .int .i64 0, .int .i64 0, .int .i64 0], rfl, Nat.le_refl _, by simp, fun i => ⟨rfl, by intro u hu; simp at hu; rcases hu with rfl | rfl | rfl | rfl | rfl <;> rfl⟩, ⟨fun h => ⟨rfl, rfl⟩, fun h => by simp at h⟩, fun i x hx => by simp at hx⟩
theorem dec_end {w w1 : World} {o2 o : Obj} {t1 t2 s1 s2 : Value} (hk : Kp (w.alloc o2) w1) (hr : w1.heap[w.heap.size]? = some (.cells #[t1, t2] 25 (0, 0))) :
    Kp w (((w1.setCell ⟨w.heap.size, 0, none⟩ s1).setCell ⟨w.heap.size, 1, none⟩ s2).alloc o) ∧ (((w1.setCell ⟨w.heap.size, 0, none⟩ s1).setCell ⟨w.heap.size, 1, none⟩ s2).alloc o).cell? ⟨w.heap.size, 0, none⟩ = some s1 ∧ (((w1.setCell ⟨w.heap.size, 0, none⟩ s1).setCell ⟨w.heap.size, 1, none⟩ s2).alloc o).cell? ⟨w.heap.size, 1, none⟩ = some s2 ∧
    Fr (fun k => k = w.heap.size) w1 (((w1.setCell ⟨w.heap.size, 0, none⟩ s1).setCell ⟨w.heap.size, 1, none⟩ s2).alloc o) ∧ w1.heap.size ≤ (((w1.setCell ⟨w.heap.size, 0, none⟩ s1).setCell ⟨w.heap.size, 1, none⟩ s2).alloc o).heap.size := by
  have k0 := ((Kp.refl w).alloc o2).trans hk
  have e : ∀ k, k < w1.heap.size → k ≠ w.heap.size → (((w1.setCell ⟨w.heap.size, 0, none⟩ s1).setCell ⟨w.heap.size, 1, none⟩ s2).alloc o).heap[k]? = w1.heap[k]? := fun k hk h1 =>
    (heap_alloc_old _ _ (by simpa using hk)).trans ((Below.heap_setCell _ _ _ _ h1).trans (Below.heap_setCell _ _ _ _ h1))
  have hz := hk.sz
  simp only [World.size_alloc] at hz
  have hrow : (((w1.setCell ⟨w.heap.size, 0, none⟩ s1).setCell ⟨w.heap.size, 1, none⟩ s2).alloc o).heap[w.heap.size]? = some (.cells #[s1, s2] 25 (0, 0)) :=
    (heap_alloc_old _ _ (by simp; omega)).trans (heap_setCell_same _ w.heap.size 1 _ _ s2 (heap_setCell_same w1 w.heap.size 0 _ _ s1 hr))
  exact ⟨⟨k0.os, k0.tape, k0.output, by simp; omega, fun k hk1 => (e k (by omega) (by omega)).trans (k0.blk hk1)⟩, row_cell hrow 0, row_cell hrow 1, fun k hk hn => e k hk hn, by simp⟩
set_option maxHeartbeats 3200000 in
set_option maxRecDepth 100000 in
theorem c_Decode (l : List UInt8) (a : Option Addr) (c : Nat) (w : World) (hl : BL w A0 l (.slice a l.length c)) :
    Calls Try.prog 18 #[.slice a l.length c] w (DecP l w) := by
  have k1 := (Kp.refl w).alloc (.cells #[.slice none 0 0, .slice none 0 0] 25)
  have hn := heap_alloc_new w (.cells #[.slice none 0 0, .slice none 0 0] 25)
  by_cases hb : 1048576 < l.length
  · have hb2 : (1048576 : Int) < (l.length : Int) := by omega
    have HD : Hid (decR l = (⟨[], []⟩, 0, 6)) := Lib.hid (by rw [decR, if_pos hb])
    have HK := Lib.hid k1
    have HN := Lib.hid hn
    clear hl k1 hn
    go_enter Try.func18, Try.ntmps18
    go_wp2_with fail
    obtain ⟨q0, q1⟩ := row2 HN.out
    exact ret_dec (by rfl) (by rfl) (by rfl) (by rfl) q0 q1 (by rfl) ⟨⟨[], []⟩, none, 0, none, 0, 0, 6, rfl, HK.out, sl_nil _ _, fl_nil _ _, HD.out⟩
  · have hb2 : ¬ (1048576 : Int) < (l.length : Int) := by omega
    have HL := Lib.hid (hl.keep goodB k1)
    have HLB : Hid (l.length ≤ 1048576) := Lib.hid (by omega)
    have HDR : Hid (decR l = match decP l with | .error q => (⟨[], []⟩, (q : Int), 5) | .ok m => (m, 0, 0)) := Lib.hid (by rw [decR, if_neg hb])
    have HK := Lib.hid k1
    have HN := Lib.hid hn
    clear hl k1 hn hb
    cases hd : decP l with
    | error q =>
      have HD := Lib.hid hd
      clear hd
      go_enter Try.func18, Try.ntmps18
      go_wp2_with (go_at_call 30; (with_reducible refine (c_read l a c _ HL.out HLB.out).mono ?_); rintro e w1 ⟨x, a1, c1, a2, c2, at', ok, rfl, hk, hs, hf, hm⟩; rw [HD.out] at hm; obtain ⟨rfl, rfl⟩ := hm; have HK1 := Lib.hid hk; have HN1 := Lib.hid (row_keep hk HN.out); obtain ⟨q0, q1⟩ := row2 HN1.out; have f0 := frozen_of_row _ _ 0 _ _ HN1.out; have f1 := frozen_of_row _ _ 1 _ _ HN1.out; have hz : w.heap.size < w1.heap.size := row_lt HN1.out; clear hk hs hf)
      obtain ⟨e1, z1, z2, _, _⟩ := dec_end (s1 := .slice none 0 0) (s2 := .slice none 0 0) (o := .cells #[.slice a1 x.ty.length c1, .slice a2 x.fu.length c2] 25) HK1.out HN1.out
      have hdr := HDR.out
      rw [HD.out] at hdr
      exact ret_dec (by rfl) (by rfl) (by rfl) (by rfl) z1 z2 (by rfl) ⟨⟨[], []⟩, none, 0, none, 0, (q : Int), 5, rfl, e1, sl_nil _ _, fl_nil _ _, hdr⟩
    | ok m =>
      have HD := Lib.hid hd
      clear hd
      go_enter Try.func18, Try.ntmps18
      go_wp2_with (go_at_call 30; (with_reducible refine (c_read l a c _ HL.out HLB.out).mono ?_); rintro e w1 ⟨x, a1, c1, a2, c2, at', ok, rfl, hk, hs, hf, hm⟩; rw [HD.out] at hm; obtain ⟨rfl, hx⟩ := hm; have HSL := Lib.hid hs; have HFL := Lib.hid hf; have HX := Lib.hid hx; have HK1 := Lib.hid hk; have HN1 := Lib.hid (row_keep hk HN.out); obtain ⟨q0, q1⟩ := row2 HN1.out; have f0 := frozen_of_row _ _ 0 _ _ HN1.out; have f1 := frozen_of_row _ _ 1 _ _ HN1.out; have hz : w.heap.size < w1.heap.size := row_lt HN1.out; clear hk hs hf hx)
      obtain ⟨e1, z1, z2, e2, e3⟩ := dec_end (s1 := .slice a1 x.ty.length c1) (s2 := .slice a2 x.fu.length c2) (o := .cells #[.slice a1 x.ty.length c1, .slice a2 x.fu.length c2] 25) HK1.out HN1.out
      have hdr := HDR.out
      rw [HD.out, ← HX.out] at hdr
      exact ret_dec (by rfl) (by rfl) (by rfl) (by rfl) z1 z2 (by rfl) ⟨x, a1, c1, a2, c2, 0, 0, rfl, e1, (HSL.out.turn goodS e2 e3 (fun b _ hb e => by simp [From] at hb; omega)).weak goodS (From_le (by simp)), (HFL.out.turn goodF e2 e3 (fun b _ hb e => by simp [From] at hb; omega)).weak goodF (From_le (by simp)), hdr⟩
end Go.Proofs.Ytlhiaompcgdmfaa
