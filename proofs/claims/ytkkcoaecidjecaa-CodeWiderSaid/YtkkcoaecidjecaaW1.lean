/- What the program's writer does with a byte and with a number. Condition: the writer lies in a block of its own; so far it is short of 2 to the 40 bytes. -/
import Derived.Test.YtkkcoaecidjecaaW0
namespace Go.Proofs.Ytkkcoaecidjecaa
open Go.RowKit
set_option linter.unusedVariables false
set_option linter.unusedSimpArgs false
/-- The header and the count are set anew. -/
theorem WR.next {w w2 : World} {p B : Nat} {o : Ou} {b : UInt8} {v v' : Value} (h0 : p < B) (hB : B ≤ w2.heap.size) (hp : w.heap[p]? = some (.cells #[v, .int .i64 (o.1.length : Int), .bool o.2] 92 (0, 0)))
    (hown : w2.ownsRow B 5 1 v' (o.1.length + 1) (bys o.1 ++ [.int .u8 (b.toNat : Int)])) (hlt : o.1.length + 1 ≤ 1048576) (hp2 : w2.heap[p]? = some (.cells #[v', .int .i64 ((o.1.length : Int) + 1), .bool o.2] 92 (0, 0))) :
    WR w2 p B (o.1 ++ [b], o.2) := by
  refine ⟨h0, hB, v', ?_, ?_⟩
  · simpa using hp2
  · simp only
    rw [take_le (by simp; omega)]
    simpa [bys] using hown
set_option maxHeartbeats 1000000 in
set_option maxRecDepth 100000 in
theorem byte_room (p B : Nat) (o : Ou) (b : UInt8) (w : World) (h : WR w p B o) (hb : o.1.length + 1 ≤ 1048576) :
    Calls Try.prog 109 #[.pointer (some ⟨p, 0, none⟩), .int .u8 (b.toNat : Int)] w fun e w' => e = .returned (.tuple #[]) ∧ WR w' p B (o.1 ++ [b], o.2) ∧ WF p w w' := by
  obtain ⟨i5, hi, hz0, hz1, hz2⟩ := info_parts infoU
  obtain ⟨h0, hB, v, hp, hown⟩ := h
  rw [take_le (by omega)] at hown
  have hpl := row_lt hp
  have g0 := row_cell hp 0
  have g1 := row_cell hp 1
  have g2 := row_cell hp 2
  have gf := fun j => frozen_of_row w p j _ _ hp
  simp at g0 g1 g2
  have HP := Lib.hid hp
  have HO := Lib.hid hown
  have HR := Lib.hid (fun k => rowAt_of (k := k) hp rfl)
  have hfp := gf 1
  have hfp0 := gf 0
  have HB := Lib.hid hb
  have hdec : decide ((o.1.length : Int) + 1 ≤ 1048576) = true := by simp; omega
  have hbb : o.1.length ≤ 140737488351232 := by omega
  have hsz : (w.setCell ⟨p, 1, none⟩ (.int .i64 ((o.1.length : Int) + 1))).heap.size = w.heap.size := World.size_setCell _ _ _
  have HS := Lib.hid hsz
  have HQ := Lib.hid (heap_setCell_same w p 1 _ _ (.int .i64 ((o.1.length : Int) + 1)) HP.out)
  have HO2 := Lib.hid (own_fr (w' := (w.setCell ⟨p, 1, none⟩ (.int .i64 ((o.1.length : Int) + 1))).alloc (.cells #[.int .u8 (b.toNat : Int)] 5)) HO.out (fun k hk => (((Kp.refl _).alloc _).blk (by rw [HS.out]; exact (HO.out.lt k hk).2)).trans (Below.heap_setCell _ _ _ _ (by have := (HO.out.lt k hk).1; simp; omega))))
  have HN := Lib.hid (fun (w2 : World) (hg : ((w.setCell ⟨p, 1, none⟩ (.int .i64 ((o.1.length : Int) + 1))).alloc (.cells #[.int .u8 (b.toNat : Int)] 5)).grownBy w2 v.ownBlock) => ((hg.block p (by simp; omega) (fun e => by have := (HO.out.lt p e.symm).1; omega)).trans (row_keep ((Kp.refl _).alloc _) HQ.out) : w2.heap[p]? = some (.cells #[v, .int .i64 ((o.1.length : Int) + 1), .bool o.2] 92 (0, 0))))
  clear hp hown gf hb hsz
  have g3 : ∀ j, (w.setCell ⟨p, 1, none⟩ (.int .i64 ((o.1.length : Int) + 1))).frozen? ⟨p, j, none⟩ = false := fun j => frozen_of_row _ p j _ _ HQ.out
  have hne : p ≠ w.heap.size := by omega
  have hbig : B ≤ (w.setCell ⟨p, 1, none⟩ (.int .i64 ((o.1.length : Int) + 1))).heap.size + 1 := by rw [HS.out]; omega
  go_enter Try.func109, Try.ntmps109
  go_wp2_with ((with_reducible show wpList _ _ _ (⟨some 23, _, _, _, _, _⟩ :: _) _ _); refine wpList_append_lies _ rfl _ _ 37 rfl B 5 i5 _ 1 1 Try.underlying37 hi hz0 hz1 hz2 rfl (by decide) v o.1.length _ (by rfl) HO2.out ⟨w.heap.size, 0, none⟩ 1 1 [.int .u8 (b.toNat : Int)] (by rfl) (by rfl) (World.news_of_block (cs := #[.int .u8 (b.toNat : Int)]) (t := 5) (fr := (0, 0)) (heap_at HS.out.symm)) (by intro u hu; simp at hu; subst hu; rfl) (by omega) (by unfold maxLen; omega) (by omega) (by simp; omega) _ rfl ?_; intro g' cap w2 a1 a2 a3 a4; have HA1 := Lib.hid a1; have HA2 := Lib.hid a2; have HA3 := Lib.hid a3; clear a1 a2 a3; have HR2 := Lib.hid (HN.out w2 HA2.out); have qf := frozen_of_row w2 p 0 _ _ HR2.out; have qc := row_cell HR2.out 0; simp at qc; have ql := row_lt HR2.out)
  refine end_none (by rfl) (by rfl) ⟨rfl, ?_, ?_⟩
  · exact WR.next h0 (by have := HA2.out.size; simp at this ⊢; omega) HP.out (own_fr HA1.out (fun k hk => Below.heap_setCell _ _ _ _ (by have := (HA1.out.lt k hk).1; simp; omega))) HB.out (heap_setCell_same w2 p 0 _ _ _ HR2.out)
  · have hs1 := HA2.out.size
    simp at hs1
    refine ⟨HA2.out.os, HA2.out.tape, HA2.out.output, by simp; omega, fun k hk hp hr => ?_, fun k hk => ?_⟩
    · have hr' : ¬ v.ownBlock = some k := fun e => hr ((HR.out k).2 e)
      exact (Below.heap_setCell _ _ _ _ hp).trans ((HA2.out.block k (by simp; omega) (fun e => hr' e.symm)).trans (((Kp.refl _).alloc _).blk (by rw [HS.out]; exact hk) |>.trans (Below.heap_setCell _ _ _ _ hp)))
    · have := (rowAt_of (heap_setCell_same w2 p 0 _ _ _ HR2.out) rfl).1 hk
      simp [Value.ownBlock] at this
      rcases HA3.out with e | e
      · exact .inl ((HR.out k).2 (by rw [← this]; exact e))
      · right; rw [← this, e]; simp
set_option maxHeartbeats 1000000 in
set_option maxRecDepth 100000 in
theorem byte_full (p B : Nat) (o : Ou) (b : UInt8) (w : World) (h : WR w p B o) (hb : ¬ o.1.length + 1 ≤ 1048576) (hb2 : o.1.length ≤ 140737488351232) :
    Calls Try.prog 109 #[.pointer (some ⟨p, 0, none⟩), .int .u8 (b.toNat : Int)] w fun e w' => e = .returned (.tuple #[]) ∧ WR w' p B (o.1 ++ [b], o.2) ∧ WF p w w' := by
  obtain ⟨h0, hB, v, hp, hown⟩ := h
  have hpl := row_lt hp
  have g0 := row_cell hp 0
  have g1 := row_cell hp 1
  have g2 := row_cell hp 2
  have gf := fun j => frozen_of_row w p j _ _ hp
  simp at g0 g1 g2
  have HP := Lib.hid hp
  have HO := Lib.hid hown
  have HR := Lib.hid (fun k => rowAt_of (k := k) hp rfl)
  have hfp := gf 1
  have HB := Lib.hid hb
  have hdec : decide ((o.1.length : Int) + 1 ≤ 1048576) = false := by simp; omega
  have HQ := Lib.hid (heap_setCell_same w p 1 _ _ (.int .i64 ((o.1.length : Int) + 1)) HP.out)
  clear hp hown gf hb
  go_enter Try.func109, Try.ntmps109
  go_wp2_with fail
  refine end_none (by rfl) (by rfl) ⟨rfl, ?_, ?_⟩
  · have hb := HB.out
    refine ⟨h0, by simpa using hB, v, by simpa using HQ.out, ?_⟩
    have e : (o.1 ++ [b]).take 1048576 = o.1.take 1048576 := by
      rw [List.take_append_of_le_length (by omega)]
    simp only
    rw [e]
    exact own_fr HO.out (fun k hk => Below.heap_setCell _ _ _ _ (by have := (HO.out.lt k hk).1; simp; omega))
  · refine ⟨rfl, rfl, rfl, by simp, fun k hk hp hr => Below.heap_setCell _ _ _ _ hp, fun k hk => ?_⟩
    have := (rowAt_of HQ.out rfl).1 hk
    simp at this
    exact .inl ((HR.out k).2 this)
theorem c_byte (p B : Nat) (o : Ou) (x : Int) (b : UInt8) (w : World) (h : WR w p B o) (hb : o.1.length ≤ 1099511627776) (hx : x = (b.toNat : Int)) :
    Calls Try.prog 109 #[.pointer (some ⟨p, 0, none⟩), .int .u8 x] w fun e w' => e = .returned (.tuple #[]) ∧ WR w' p B (o.1 ++ [b], o.2) ∧ WF p w w' := by
  subst hx
  by_cases hM : o.1.length + 1 ≤ 1048576
  · exact byte_room p B o b w h hM
  · exact byte_full p B o b w h hM (by omega)
theorem numF_big {f n : Nat} (h : ¬ n < 128) : numF (f + 1) n = UInt8.ofNat (n % 128 + 128) :: numF f (n / 128) := by rw [numF, if_neg h]
theorem numF_small {f n : Nat} (h : n < 128) : numF f n = [UInt8.ofNat n] := by
  cases f with
  | zero => rfl
  | succ f => rw [numF, if_pos h]
/-- So far, of n, o2 is written, and m is left. -/
def NumI (o : Ou) (n : Nat) (o2 : Ou) (f m : Nat) : Prop := o2.2 = o.2 ∧ o2.1 ++ numF f m = o.1 ++ num n ∧ m < 2 * 128 ^ f ∧ f ≤ 9 ∧ o2.1.length + f ≤ o.1.length + 9
theorem or_all : (List.range 256).all (fun k => decide (bits BinOp.or IntKind.u8 (k : Int) 128 = ((UInt8.ofNat (k % 128 + 128)).toNat : Int))) = true := by kernel_rfl
theorem or_128 (m : Nat) : bits BinOp.or IntKind.u8 ((m : Int) % 256) 128 = ((UInt8.ofNat (m % 128 + 128)).toNat : Int) := by
  have h := List.all_eq_true.1 or_all (m % 256) (by simp; omega)
  have h2 := of_decide_eq_true h
  rw [show ((m % 256 : Nat) : Int) = (m : Int) % 256 by omega, show m % 256 % 128 = m % 128 by omega] at h2
  exact h2
set_option maxHeartbeats 1000000 in
set_option maxRecDepth 100000 in
theorem c_number (p B : Nat) (o : Ou) (n : Nat) (w : World) (h : WR w p B o) (hb : o.1.length + 10 ≤ 1099511627776) (hn : n < 18446744073709551616) :
    Calls Try.prog 83 #[.pointer (some ⟨p, 0, none⟩), .int .u64 (n : Int)] w (WP p B o [.nu n] w) := by
  have HW := Lib.hid h
  have HN := Lib.hid hn
  clear h hn
  go_enter Try.func83, Try.ntmps83
  go_wp2_with fail
  go_loopw [1] (fun x wr => ∃ (m f : Nat) (o2 : Ou), x = .int .u64 (m : Int) ∧ NumI o n o2 f m ∧ WR wr p B o2 ∧ WF p w wr) (fun x _ => (intOf x).toNat)
  case atStart => exact ⟨n, 9, o, rfl, ⟨rfl, rfl, by have := HN.out; omega, by omega, by omega⟩, HW.out, WF.refl _ _⟩
  case round =>
    obtain ⟨m, f, o2, rfl, hI, hwr, hwf⟩ := hrel
    have hm64 : m < 18446744073709551616 := by
      have h1 := hI.2.2.1
      have h2 := hI.2.2.2.1
      have : 128 ^ f ≤ 128 ^ 9 := Nat.pow_le_pow_right (by omega) h2
      omega
    have hlen : o2.1.length ≤ 1099511627776 := by have := hI.2.2.2.2; omega
    have HI := Lib.hid hI
    have HR := Lib.hid hwr
    have HF := Lib.hid hwf
    clear hI hwr hwf
    by_cases hlt : m < 128
    · go_wp2_with (go_at_call 109; (with_reducible refine (c_byte p B o2 _ (UInt8.ofNat m) _ HR.out (by omega) (by simp; omega)).mono ?_); rintro e w1 ⟨rfl, h1, h2⟩; have H1 := Lib.hid h1; have H2 := Lib.hid h2; clear h1 h2)
      refine end_none (by rfl) (by rfl) ⟨rfl, (o2.1 ++ [UInt8.ofNat m], o2.2), Lib.hid ?_, ?_, H1.out, HF.out.trans H2.out⟩
      · have h1 := HI.out.1
        have h2 := HI.out.2.1
        rw [numF_small hlt] at h2
        show _ = (o.1 ++ num n, o.2)
        rw [← h2, h1]
      · have h2 := HI.out.2.1
        have := num_len n
        rw [numF_small hlt] at h2
        show (o2.1 ++ [UInt8.ofNat m]).length ≤ _
        rw [h2]; simp; omega
    · have hor := or_128 m
      have h128 : (128 : Int) ≤ m := by omega
      go_wp2_with (go_at_call 109; (with_reducible refine (c_byte p B o2 _ (UInt8.ofNat (m % 128 + 128)) _ HR.out (by omega) (by first | rfl | (simp; done) | (simp; omega))).mono ?_); rintro e w1 ⟨rfl, h1, h2⟩; have H1 := Lib.hid h1; have H2 := Lib.hid h2; clear h1 h2)
      go_roundw
      case rel =>
        refine ⟨m / 128, f - 1, (o2.1 ++ [UInt8.ofNat (m % 128 + 128)], o2.2), by simp, ?_, H1.out, HF.out.trans H2.out⟩
        obtain ⟨h1, h2, h3, h4, h5⟩ := HI.out
        cases f with
        | zero => simp at h3; omega
        | succ f =>
          rw [numF_big hlt] at h2
          refine ⟨h1, ?_, ?_, by omega, ?_⟩
          · rw [← h2]; simp
          · have e1 : 2 * 128 ^ (f + 1) = (2 * 128 ^ f) * 128 := by rw [Nat.pow_succ]; omega
            rw [e1] at h3
            exact Nat.div_lt_of_lt_mul (by rw [Nat.mul_comm]; exact h3)
          · simp; omega
      case measure => simp [intOf]; omega
theorem c_numberI (p B : Nat) (o : Ou) (x : Int) (n : Nat) (w : World) (h : WR w p B o) (hb : o.1.length + 10 ≤ 1099511627776) (hn : n < 18446744073709551616) (hx : x = (n : Int)) :
    Calls Try.prog 83 #[.pointer (some ⟨p, 0, none⟩), .int .u64 x] w (WP p B o [.nu n] w) := by
  subst hx
  exact c_number p B o n w h hb hn
theorem bad_sm {o : Ou} {n least : Int} (h : badN n least = true) : (o.1, true) = puts o [.sm n least] := by
  show _ = put1 o (.sm n least)
  rw [put1, if_pos h]
theorem good_sm {o : Ou} {n least : Int} (h : badN n least = false) : puts o [.nu (n - least).toNat] = puts o [.sm n least] := by
  show put1 o (.nu _) = put1 o (.sm n least)
  rw [put1, put1, if_neg (by rw [h]; simp)]
theorem WR.bad {w : World} {p B : Nat} {o : Ou} {v : Value} (h : WR w p B o) (hp : w.heap[p]? = some (.cells #[v, .int .i64 (o.1.length : Int), .bool o.2] 92 (0, 0))) (ho : w.ownsRow B 5 1 v (o.1.take 1048576).length (bys (o.1.take 1048576))) : WR (w.setCell ⟨p, 2, none⟩ (.bool true)) p B (o.1, true) := by
  refine ⟨h.1, by simpa using h.2.1, v, by simpa using heap_setCell_same w p 2 _ _ (.bool true) hp, ?_⟩
  exact own_fr ho (fun k hk => Below.heap_setCell _ _ _ _ (by have := (ho.lt k hk).1; have := h.1; simp; omega))
theorem wf_bad {w : World} {p : Nat} {v x y z : Value} {t : TypeId} (hp : w.heap[p]? = some (.cells #[v, x, y] t (0, 0))) : WF p w (w.setCell ⟨p, 2, none⟩ z) := by
  refine ⟨rfl, rfl, rfl, by simp, fun k hk hp hr => Below.heap_setCell _ _ _ _ hp, fun k hk => ?_⟩
  have h2 := heap_setCell_same w p 2 _ _ z hp
  have := (rowAt_of h2 (show _ = some v by simp)).1 hk
  exact .inl ((rowAt_of hp (show _ = some v by simp)).2 this)
/-- A number that is at most 2 to the 31 less 1, or beyond. -/
theorem c_integer (p B : Nat) (o : Ou) (n least : Int) (w : World) (h : WR w p B o) (hb : o.1.length + 10 ≤ 1099511627776) (hl : -1 ≤ least ∧ least ≤ 0) (hn : i64 n) :
    Calls Try.prog 59 #[.pointer (some ⟨p, 0, none⟩), .int .i64 n, .int .i64 least] w (WP p B o [.sm n least] w) := by
  have HW := Lib.hid h
  obtain ⟨_, _, v, hp, hown⟩ := h
  have hpl := row_lt hp
  have g2 := row_cell hp 2
  have hfp := frozen_of_row w p 2 _ _ hp
  simp at g2
  have HP := Lib.hid hp
  obtain ⟨hl0, hl1⟩ := hl
  obtain ⟨hn0, hn1⟩ := hn
  have HO := Lib.hid hown
  clear hp hown
  cases hbad : badN n least with
  | true =>
    have HX := Lib.hid hbad
    unfold badN at hbad
    by_cases h1 : n < least
    · clear hbad
      go_enter Try.func59, Try.ntmps59
      go_wp2_with fail
      exact end_ret (by rfl) (by rfl) (WP.of (o' := (o.1, true)) (bad_sm HX.out) (HW.out.bad HP.out HO.out) (wf_bad HP.out))
    · have h2 : 2147483647 < n := by simpa [h1] using hbad
      clear hbad
      go_enter Try.func59, Try.ntmps59
      go_wp2_with fail
      exact end_ret (by rfl) (by rfl) (WP.of (o' := (o.1, true)) (bad_sm HX.out) (HW.out.bad HP.out HO.out) (wf_bad HP.out))
  | false =>
    have HX := Lib.hid hbad
    unfold badN at hbad
    have h1 : ¬ n < least := by simp at hbad; omega
    have h2 : ¬ 2147483647 < n := by simp at hbad; omega
    clear hbad
    go_enter Try.func59, Try.ntmps59
    go_wp2_with (go_at_call 83; (with_reducible refine (c_numberI p B o _ (n - least).toNat _ HW.out hb (by omega) (by omega)).mono ?_); rintro e w1 ⟨rfl, o1, ho, hl1, h1, h2⟩; have H1 := Lib.hid h1; have H2 := Lib.hid h2; clear h1 h2)
    refine end_none (by rfl) (by rfl) (WP.of (ho.out.trans (good_sm HX.out)) H1.out H2.out)
end Go.Proofs.Ytkkcoaecidjecaa
