/- What the reference's writer does with a number. Condition: the writer lies in a block of its own; so far it is short of 2 to the 40 bytes. -/
import Derived.Test.YtpikeeddanfhdaaW0
import Derived.Test.YtpikeeddanfhdaaW1
namespace Go.Proofs.Ytpikeeddanfhdaa
open Go.RowKit
set_option linter.unusedVariables false
set_option linter.unusedSimpArgs false
/-- The writer's block as it stands in a world behind an append. -/
theorem RW.there {wr w2 : World} {p B : Nat} {o : Ou} {v : Value} {x : Int} (h : RW wr p B o) (hp : wr.heap[p]? = some (.cells #[v, .bool o.2] 67 (0, 0))) (hown : wr.ownsRow B 5 1 v o.1.length (bys o.1))
    (a2 : (wr.alloc (.cells #[.int .u8 x] 5)).grownBy w2 v.ownBlock) : w2.heap[p]? = some (.cells #[v, .bool o.2] 67 (0, 0)) :=
  (a2.block p (by have := row_lt hp; simp; omega) (fun e => by have := (hown.lt p e.symm).1; have := h.1; omega)).trans (row_keep ((Kp.refl _).alloc _) hp)
theorem RW.next {wr w2 : World} {p B g' cap : Nat} {o : Ou} {v : Value} {x : Int} {b : UInt8} (h : RW wr p B o) (hp : wr.heap[p]? = some (.cells #[v, .bool o.2] 67 (0, 0))) (hown : wr.ownsRow B 5 1 v o.1.length (bys o.1)) (hx : x = (b.toNat : Int))
    (a1 : w2.ownsRow B 5 1 (.slice (some ⟨g', 0, none⟩) (o.1.length + 1) cap) (o.1.length + 1) (bys o.1 ++ [.int .u8 x])) (a2 : (wr.alloc (.cells #[.int .u8 x] 5)).grownBy w2 v.ownBlock) (a3 : v.ownBlock = some g' ∨ g' = (wr.alloc (.cells #[.int .u8 x] 5)).heap.size) :
    RW (w2.setCell ⟨p, 0, none⟩ (.slice (some ⟨g', 0, none⟩) (o.1.length + 1) cap)) p B (o.1 ++ [b], o.2) ∧ WF p wr (w2.setCell ⟨p, 0, none⟩ (.slice (some ⟨g', 0, none⟩) (o.1.length + 1) cap)) := by
  have hp2 := h.there hp hown a2
  have hs2 := a2.size
  simp at hs2
  have hB := h.2.1
  subst hx
  refine ⟨⟨h.1, by simp; omega, .slice (some ⟨g', 0, none⟩) (o.1.length + 1) cap, by simpa using heap_setCell_same w2 p 0 _ _ (.slice (some ⟨g', 0, none⟩) (o.1.length + 1) cap) hp2, ?_⟩, ⟨a2.os, a2.tape, a2.output, by simp; omega, fun k hk hkp hr => ?_, fun k hk => ?_⟩⟩
  · have := own_fr a1 (w' := w2.setCell ⟨p, 0, none⟩ (.slice (some ⟨g', 0, none⟩) (o.1.length + 1) cap)) (fun k hk => Below.heap_setCell _ _ _ _ (by have := (a1.lt k hk).1; have := h.1; simp; omega))
    simpa [bys] using this
  · have hr' : ¬ v.ownBlock = some k := fun e => hr ((rowAt_of hp rfl).2 e)
    exact (Below.heap_setCell _ _ _ _ hkp).trans ((a2.block k (by simp; omega) (fun e => hr' e.symm)).trans (((Kp.refl _).alloc _).blk hk))
  · have := (rowAt_of (heap_setCell_same w2 p 0 _ _ (.slice (some ⟨g', 0, none⟩) (o.1.length + 1) cap) hp2) (show _ = some (Value.slice (some ⟨g', 0, none⟩) (o.1.length + 1) cap) by simp)).1 hk
    simp [Value.ownBlock] at this
    rcases a3 with e | e
    · exact .inl ((rowAt_of hp rfl).2 (by rw [← this]; exact e))
    · right; rw [← this, e]; simp
set_option maxHeartbeats 1000000 in
set_option maxRecDepth 100000 in
theorem c_rnum (p B : Nat) (o : Ou) (n : Nat) (w : World) (h : RW w p B o) (hb : o.1.length + 10 ≤ 1099511627776) (hn : n < 18446744073709551616) :
    Calls Try.prog 45 #[.pointer (some ⟨p, 0, none⟩), .int .u64 (n : Int)] w (WQ p B o [.nu n] w) := by
  obtain ⟨i5, hi, hz0, hz1, hz2⟩ := info_parts infoU
  have HW := Lib.hid h
  have HN := Lib.hid hn
  clear h hn
  go_enter Try.func45, Try.ntmps45
  go_wp2_with fail
  go_loopw [1] (fun x wr => ∃ (m f : Nat) (o2 : Ou), x = .int .u64 (m : Int) ∧ NumI o n o2 f m ∧ RW wr p B o2 ∧ WF p w wr) (fun x _ => (intOf x).toNat)
  case atStart => exact ⟨n, 9, o, rfl, ⟨rfl, rfl, by have := HN.out; omega, by omega, by omega⟩, HW.out, WF.refl _ _⟩
  case round =>
    obtain ⟨m, f, o2, rfl, hI, hwr, hwf⟩ := hrel
    have hm64 : m < 18446744073709551616 := by
      have h1 := hI.2.2.1
      have h2 := hI.2.2.2.1
      have : 128 ^ f ≤ 128 ^ 9 := Nat.pow_le_pow_right (by omega) h2
      omega
    have hlen : o2.1.length ≤ 1099511627776 := by have := hI.2.2.2.2; omega
    have HI := Lib.hid hI
    have HR := Lib.hid hwr
    have HF := Lib.hid hwf
    obtain ⟨_, hBr, v, hp, hown⟩ := hwr
    obtain ⟨g0, g1⟩ := row2 hp
    have gf := frozen_of_row wr p 0 _ _ hp
    have hpl := row_lt hp
    have HP := Lib.hid hp
    have HO := Lib.hid hown
    clear hI hwf hp hown
    by_cases hlt : m < 128
    · have hle : ¬ (127 : Int) < m := by omega
      go_wp2_with ((with_reducible show wpList _ _ _ (⟨some 29, _, _, _, _, _⟩ :: _) _ _); refine wpList_append_lies _ rfl _ _ 37 rfl B 5 i5 _ 1 1 Try.underlying37 hi hz0 hz1 hz2 rfl (by decide) v o2.1.length _ (by rfl) (HO.out.alloc _) ⟨wr.heap.size, 0, none⟩ 1 1 [_] (by rfl) (by rfl) (World.news_of_block (cs := #[_]) (t := 5) (fr := (0, 0)) (heap_alloc_new wr _)) (by intro u hu; simp at hu; subst hu; rfl) (by omega) (by unfold maxLen; omega) (by omega) (by simp; omega) _ rfl ?_; intro g' cap w2 a1 a2 a3 a4; have HNX := Lib.hid (RW.next (b := UInt8.ofNat m) HR.out HP.out HO.out (by first | rfl | (simp; done) | (simp; omega)) a1 a2 a3); have HT := Lib.hid (RW.there HR.out HP.out HO.out a2); clear a1 a2 a3; have qf := frozen_of_row w2 p 0 _ _ HT.out; have qc := (row2 HT.out).1; have ql := row_lt HT.out)
      refine end_none (by rfl) (by rfl) (WQ.of (o' := (o2.1 ++ [UInt8.ofNat m], o2.2)) ?_ HNX.out.1 (HF.out.trans HNX.out.2))
      have h1 := HI.out.1
      have h2 := HI.out.2.1
      rw [numF_small hlt] at h2
      show _ = (o.1 ++ num n, o.2)
      rw [← h2, h1]
    · have hle : (127 : Int) < m := by omega
      go_wp2_with ((with_reducible show wpList _ _ _ (⟨some 16, _, _, _, _, _⟩ :: _) _ _); refine wpList_append_lies _ rfl _ _ 37 rfl B 5 i5 _ 1 1 Try.underlying37 hi hz0 hz1 hz2 rfl (by decide) v o2.1.length _ (by rfl) (HO.out.alloc _) ⟨wr.heap.size, 0, none⟩ 1 1 [_] (by rfl) (by rfl) (World.news_of_block (cs := #[_]) (t := 5) (fr := (0, 0)) (heap_alloc_new wr _)) (by intro u hu; simp at hu; subst hu; rfl) (by omega) (by unfold maxLen; omega) (by omega) (by simp; omega) _ rfl ?_; intro g' cap w2 a1 a2 a3 a4; have HNX := Lib.hid (RW.next (b := UInt8.ofNat (m % 128 + 128)) HR.out HP.out HO.out (by first | rfl | (simp; done) | (simp; omega)) a1 a2 a3); have HT := Lib.hid (RW.there HR.out HP.out HO.out a2); clear a1 a2 a3; have qf := frozen_of_row w2 p 0 _ _ HT.out; have qc := (row2 HT.out).1; have ql := row_lt HT.out)
      go_roundw
      case rel =>
        refine ⟨m / 128, f - 1, (o2.1 ++ [UInt8.ofNat (m % 128 + 128)], o2.2), by simp, ?_, HNX.out.1, HF.out.trans HNX.out.2⟩
        obtain ⟨h1, h2, h3, h4, h5⟩ := HI.out
        cases f with
        | zero => simp at h3; omega
        | succ f =>
          rw [numF_big hlt] at h2
          refine ⟨h1, ?_, ?_, by omega, ?_⟩
          · rw [← h2]; simp
          · have e1 : 2 * 128 ^ (f + 1) = (2 * 128 ^ f) * 128 := by rw [Nat.pow_succ]; omega
            rw [e1] at h3
            exact Nat.div_lt_of_lt_mul (by rw [Nat.mul_comm]; exact h3)
          · simp; omega
      case measure => simp [intOf]; omega
end Go.Proofs.Ytpikeeddanfhdaa
