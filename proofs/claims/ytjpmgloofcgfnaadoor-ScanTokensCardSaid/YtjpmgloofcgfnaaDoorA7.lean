/- Number of package scan: the plain function. Condition: the variable of the library's error holds a value of an interface. -/
import Derived.Test.YtjpmgloofcgfnaaDoorA6
namespace Go.Proofs.YtjpmgloofcgfnaaDoor
open Go.RowKit
set_option linter.unusedVariables false
set_option linter.unusedSimpArgs false

/-- The library's error lies in its variable. -/
def ErrAt (w : World) : Prop := ∃ ev, w.cell? ⟨2, 0, none⟩ = some ev ∧ (ev = .nilIface ∨ ∃ te pe, ev = .iface te pe)
theorem ErrAt.keep {w w' : World} (h : ErrAt w) (hk : Kp w w') : ErrAt w' := by
  obtain ⟨ev, h1, h2⟩ := h
  exact ⟨ev, hk.cellv h1, h2⟩
theorem decs (s : ByteArray) (pos : Nat) (h : pos < s.size) : ((s[pos]'h).toNat < 128 ∧ Utf8.decode s pos = ((s[pos]'h).toNat, 1)) ∨ (128 ≤ (s[pos]'h).toNat ∧ 128 ≤ (Utf8.decode s pos).1) := by
  by_cases ha : (s[pos]'h).toNat < 128
  · exact .inl ⟨ha, decode_ascii s pos h ha⟩
  · exact .inr ⟨by omega, (decode_high s pos h (by omega)).1⟩
theorem not_dg {b c : Nat} (h : 128 ≤ c) : isDg b c = false := by unfold isDg; simp; omega
theorem digit_10 (c : Nat) : decide (48 ≤ (c : Int) ∧ (c : Int) ≤ 57) = isDg 10 c := by
  unfold isDg
  rw [Bool.eq_iff_iff]
  simp
  omega
theorem hex_16 (c : Nat) : hexB (c : Int) = isDg 16 c := by
  unfold hexB isDg
  rw [Bool.eq_iff_iff]
  simp
  omega
theorem c_CutPrefix (s p : ByteArray) (w : World) : Calls Tryd.prog 29 #[.string s, .string p] w fun e w' => e = .returned (.tuple #[.string ⟨(Lib.trimPrefix s.data.toList p.data.toList).toArray⟩, .bool (Lib.hasPrefix s.data.toList p.data.toList)]) ∧ w = w' :=
  (Tryd.strings_CutPrefix s p w).mono fun e w' h => ⟨h.1, h.2.symm⟩
theorem cut_no {s : ByteArray} (h : ¬ (2 ≤ s.size ∧ ∃ h2 : 1 < s.size, (s[0]'(by omega)).toNat = 48 ∧ (s[1]'h2).toNat = 120)) : Lib.hasPrefix s.data.toList [48, 120] = false ∧ (⟨(Lib.trimPrefix s.data.toList [48, 120]).toArray⟩ : ByteArray) = s := by
  have h1 : Lib.hasPrefix s.data.toList [48, 120] = false := by
    unfold Lib.hasPrefix
    rw [Bool.eq_false_iff]
    intro hp
    rw [List.isPrefixOf_iff_prefix] at hp
    obtain ⟨r, hr⟩ := hp
    have hl := size_list s
    rw [← hr] at hl
    simp at hl
    have e0 := drop_at (s := s) (k := 0) (by omega)
    have e1 := drop_at (s := s) (k := 1) (by omega)
    rw [← hr] at e0 e1
    simp at e0 e1
    exact h ⟨by omega, by omega, by rw [← e0]; rfl, by rw [← e1]; rfl⟩
  refine ⟨h1, ?_⟩
  unfold Lib.trimPrefix
  rw [h1]
  simp
theorem cut_yes {s : ByteArray} (h : 2 ≤ s.size) (h0 : (s[0]'(by omega)).toNat = 48) (h1 : (s[1]'(by omega)).toNat = 120) : Lib.hasPrefix s.data.toList [48, 120] = true ∧ Lib.trimPrefix s.data.toList [48, 120] = s.data.toList.drop 2 := by
  have e0 := drop_at (s := s) (k := 0) (by omega)
  have e1 := drop_at (s := s) (k := 1) (by omega)
  simp only [List.drop_zero, Nat.zero_add] at e0
  have c0 : (s[0]'(by omega)) = 48 := UInt8.toNat_inj.1 h0
  have c1 : (s[1]'(by omega)) = 120 := UInt8.toNat_inj.1 h1
  have hp : Lib.hasPrefix s.data.toList [48, 120] = true := by
    rw [e0, e1, c0, c1]; rfl
  refine ⟨hp, ?_⟩
  unfold Lib.trimPrefix
  rw [hp]; rfl
theorem c_PU10 (t : ByteArray) (w : World) (hne : t.size ≠ 0) (hmax : t.size ≤ 140737488351232) (hall : t.data.toList.all (dgB 10) = true) (n : Nat) (hr : pu 10 0 t.data.toList = some n) :
    Calls Tryd.prog 31 #[.string t, .int .i64 10, .int .i64 64] w fun e w' => e = .returned (.tuple #[.int .u64 n, .nilIface]) ∧ Kp w w' := by
  go_enter Tryd.func31, Tryd.ntmps31
  go_wp2_with (first | (go_at_call 44; refine (c_pu10 t _ hne hmax hall _ hr).mono ?_; rintro e w2 ⟨rfl, hk⟩; rw [show puT (some n) = .tuple #[.int .u64 n, .nilIface] from rfl]))
  go_ret2
  exact ⟨rfl, hk⟩
theorem c_PU10_none (t : ByteArray) (w : World) (hne : t.size ≠ 0) (hmax : t.size ≤ 140737488351232) (hall : t.data.toList.all (dgB 10) = true) (hr : pu 10 0 t.data.toList = none) (he : ErrAt w) :
    Calls Tryd.prog 31 #[.string t, .int .i64 10, .int .i64 64] w fun e w' => ∃ N, e = .returned (.tuple #[.int .u64 18446744073709551615, .iface 75 (.pointer (some ⟨N, 0, none⟩))]) ∧ Kp w w' := by
  go_enter Tryd.func31, Tryd.ntmps31
  go_wp2_with (first | (go_at_call 44; refine (c_pu10 t _ hne hmax hall _ hr).mono ?_; rintro e w2 ⟨rfl, hk⟩; rw [show puT none = .tuple #[.int .u64 18446744073709551615, .iface 72 (.int .i64 1)] from rfl]; obtain ⟨ev, hv, hev⟩ := he.keep hk; have HV := Lib.hid hv; clear hv) | (go_at_call 45; refine (Tryd.strconv_toError_range _ t _ _ ev _ (by omega) HV.out hev).mono ?_; rintro e w3 ⟨N, rfl, hN, hNb, hb⟩))
  go_ret2
  exact ⟨N, rfl, hk.trans hb⟩
theorem c_PU16 (t : ByteArray) (w : World) (hne : t.size ≠ 0) (hmax : t.size ≤ 140737488351232) (hall : t.data.toList.all (dgB 16) = true) (n : Nat) (hr : pu 16 0 t.data.toList = some n) :
    Calls Tryd.prog 31 #[.string t, .int .i64 16, .int .i64 64] w fun e w' => e = .returned (.tuple #[.int .u64 n, .nilIface]) ∧ Kp w w' := by
  go_enter Tryd.func31, Tryd.ntmps31
  go_wp2_with (first | (go_at_call 44; refine (c_pu16 t _ hne hmax hall _ hr).mono ?_; rintro e w2 ⟨rfl, hk⟩; rw [show puT (some n) = .tuple #[.int .u64 n, .nilIface] from rfl]))
  go_ret2
  exact ⟨rfl, hk⟩
theorem c_PU16_none (t : ByteArray) (w : World) (hne : t.size ≠ 0) (hmax : t.size ≤ 140737488351232) (hall : t.data.toList.all (dgB 16) = true) (hr : pu 16 0 t.data.toList = none) (he : ErrAt w) :
    Calls Tryd.prog 31 #[.string t, .int .i64 16, .int .i64 64] w fun e w' => ∃ N, e = .returned (.tuple #[.int .u64 18446744073709551615, .iface 75 (.pointer (some ⟨N, 0, none⟩))]) ∧ Kp w w' := by
  go_enter Tryd.func31, Tryd.ntmps31
  go_wp2_with (first | (go_at_call 44; refine (c_pu16 t _ hne hmax hall _ hr).mono ?_; rintro e w2 ⟨rfl, hk⟩; rw [show puT none = .tuple #[.int .u64 18446744073709551615, .iface 72 (.int .i64 1)] from rfl]; obtain ⟨ev, hv, hev⟩ := he.keep hk; have HV := Lib.hid hv; clear hv) | (go_at_call 45; refine (Tryd.strconv_toError_range _ t _ _ ev _ (by omega) HV.out hev).mono ?_; rintro e w3 ⟨N, rfl, hN, hNb, hb⟩))
  go_ret2
  exact ⟨N, rfl, hk.trans hb⟩
set_option maxHeartbeats 3200000 in
set_option maxRecDepth 100000 in
theorem num_16 (s dg : ByteArray) (w : World) (he : ErrAt w) (hs : s.size ≤ 140737488351232) (hdz : dg.size ≤ 140737488351232)  (hne : dg.size ≠ 0) (hnv : numV s.data.toList = nmV 16 dg.data.toList)
    (htp : (⟨(Lib.trimPrefix s.data.toList [48, 120]).toArray⟩ : ByteArray) = dg) (hhp : Lib.hasPrefix s.data.toList [48, 120] = true) :
    Calls Tryd.prog 14 #[.string s] w fun e w' => e = .returned (numT (numV s.data.toList)) ∧ Kp w w' := by
  have HE := Lib.hid he
  have HTP := Lib.hid htp
  have HHP := Lib.hid hhp
  obtain ⟨hem, hem2⟩ := em_no hne
  have HNV := Lib.hid hnv
  have HD := Lib.hid (fun (k : Nat) (h : k < dg.size) => drop_at h)
  have HDE := Lib.hid (drop_end (s := dg) (Nat.le_refl _))
  have HLE := Lib.hid (show dg.data.toList ≠ [] from fun e => hne (by have := size_list dg; rw [e] at this; simpa using this.symm))
  have HNE := Lib.hid hne
  obtain ⟨l, hl⟩ : ∃ l, l = dg.data.toList := ⟨_, rfl⟩
  have HLL := Lib.hid hl
  rw [← hl] at HNV HD HDE HLE
  clear hl htp hhp hnv hne he
  go_enter Tryd.func14, Tryd.ntmps14
  go_wp2_with (first | (go_at_call 29; refine (c_CutPrefix s ⟨#[48, 120]⟩ _).mono ?_; rintro e w' ⟨rfl, rfl⟩; rw [show (⟨#[48, 120]⟩ : ByteArray).data.toList = [48, 120] from rfl, HTP.out, HHP.out]))
  go_loopw [9] (fun _ w' => ∃ (pos : Nat), w' = w.iter dg pos ∧ pos ≤ dg.size ∧ Hid (l.all (dgB 16) = (l.drop pos).all (dgB 16))) (fun _ w' => dg.size - w'.iterPos w.heap.size)
  case atStart => exact ⟨0, rfl, by omega, Lib.hid rfl⟩
  case round =>
    obtain ⟨pos, rfl, hpz, HA⟩ := hrel
    by_cases hp : pos < dg.size
    · have HBAD := Lib.hid (fun (hc : isDg 16 (dg[pos]'hp).toNat = false) => show numT (numV s.data.toList) = .tuple #[.int .u64 0, .int .i64 4] by
        rw [HNV.out, nmV_bad (by rw [HA.out, HD.out pos hp, List.all_cons, show dgB 16 (dg[pos]'hp) = false from hc]; rfl)]; rfl)
      have HGOOD := Lib.hid (fun (hc : isDg 16 (dg[pos]'hp).toNat = true) => show l.all (dgB 16) = (l.drop (pos + 1)).all (dgB 16) by
        rw [HA.out, HD.out pos hp, List.all_cons, show dgB 16 (dg[pos]'hp) = true from hc, Bool.true_and])
      rcases decs dg pos hp with ⟨hlt, hde⟩ | ⟨hge, hde⟩
      · obtain ⟨c, hc⟩ : ∃ c, c = (dg[pos]'hp).toNat := ⟨_, rfl⟩
        rw [← hc] at HBAD HGOOD hde hlt
        have hnx : ∀ ty, (Instr.next (.pointer (some ⟨w.heap.size, 0, none⟩)) true ty).run Tryd.prog (w.iter dg pos) = .ok (.tuple #[.bool true, .int .i64 pos, .int .i32 c]) (w.iter dg (pos + 1)) := fun ty => by
          have := run_next_any (P := Tryd.prog) w dg pos ty hp
          rw [hde] at this
          exact this
        clear hde hc
        cases hdg : isDg 16 c with
        | true =>
          have HDG := Lib.hid ((hex_16 c).trans hdg)
          have HG2 := Lib.hid (HGOOD.out hdg)
          clear HBAD HGOOD hdg
          go_wp2_with (first | (go_at_call 30; (with_reducible refine (c_isHex _ _).mono ?_); rintro e w' ⟨rfl, rfl⟩; rw [HDG.out]))
          go_roundw
          case rel => exact ⟨pos + 1, rfl, by omega, HG2⟩
          case measure => simp; omega
        | false =>
          have HDG := Lib.hid ((hex_16 c).trans hdg)
          have HB2 := Lib.hid (HBAD.out hdg)
          clear HBAD HGOOD hdg
          go_wp2_with (first | (go_at_call 30; (with_reducible refine (c_isHex _ _).mono ?_); rintro e w' ⟨rfl, rfl⟩; rw [HDG.out]))
          go_ret2
          exact ⟨(congrArg Ending.returned HB2.out).symm, (Kp.refl w).iter _ _⟩
      · obtain ⟨c, hcc⟩ : ∃ c : Nat, c = (Utf8.decode dg pos).1 := ⟨_, rfl⟩
        have hnx : ∀ ty, (Instr.next (.pointer (some ⟨w.heap.size, 0, none⟩)) true ty).run Tryd.prog (w.iter dg pos) = .ok (.tuple #[.bool true, .int .i64 pos, .int .i32 c]) (w.iter dg (pos + (Utf8.decode dg pos).2)) := fun ty => by
          rw [hcc]; exact run_next_any w dg pos ty hp
        have HDG := Lib.hid ((hex_16 c).trans (not_dg (by rw [hcc]; exact hde)))
        have HB2 := Lib.hid (HBAD.out (not_dg hge))
        clear HBAD HGOOD hcc hde hge
        go_wp2_with (first | (go_at_call 30; (with_reducible refine (c_isHex _ _).mono ?_); rintro e w' ⟨rfl, rfl⟩; rw [HDG.out]))
        go_ret2
        exact ⟨(congrArg Ending.returned HB2.out).symm, (Kp.refl w).iter _ _⟩
    · obtain rfl : pos = dg.size := by omega
      have hnx : ∀ ty, (Instr.next (.pointer (some ⟨w.heap.size, 0, none⟩)) true ty).run Tryd.prog (w.iter dg dg.size) = _ := fun ty => run_next_end w dg dg.size ty hp
      have HALL := Lib.hid (show dg.data.toList.all (dgB 16) = true by rw [← HLL.out, HA.out, HDE.out]; rfl)
      cases hr : pu 16 0 dg.data.toList with
      | some n =>
        have HR := Lib.hid hr
        have HF := Lib.hid (show numT (numV s.data.toList) = .tuple #[.int .u64 n, .int .i64 0] by rw [HNV.out, nmV_ok (n := n) HLE.out (by rw [HLL.out]; exact HALL.out) (by rw [HLL.out]; exact hr)]; rfl)
        clear hr
        go_wp2_with (first | (go_at_call 31; (with_reducible refine (c_PU16 dg _ HNE.out hdz HALL.out n HR.out).mono ?_); rintro e w4 ⟨rfl, hk4⟩))
        go_ret2
        exact ⟨(congrArg Ending.returned HF.out).symm, ((Kp.refl w).iter _ _).trans hk4⟩
      | none =>
        have HR := Lib.hid hr
        have HF := Lib.hid (show numT (numV s.data.toList) = .tuple #[.int .u64 0, .int .i64 6] by rw [HNV.out, nmV_large HLE.out (by rw [HLL.out]; exact HALL.out) (by rw [HLL.out]; exact hr)]; rfl)
        clear hr
        go_wp2_with (first | (go_at_call 31; (with_reducible refine (c_PU16_none dg _ HNE.out hdz HALL.out HR.out (HE.out.keep ((Kp.refl w).iter _ _))).mono ?_); rintro e w4 ⟨N, rfl, hk4⟩))
        go_ret2
        exact ⟨(congrArg Ending.returned HF.out).symm, ((Kp.refl w).iter _ _).trans hk4⟩
set_option maxHeartbeats 3200000 in
set_option maxRecDepth 100000 in
theorem num_10 (s dg : ByteArray) (w : World) (he : ErrAt w) (hs : s.size ≤ 140737488351232) (hdz : dg.size ≤ 140737488351232) (hz : ∃ h0 : 0 < dg.size, ((dg[0]'h0).toNat ≠ 48)) (hne : dg.size ≠ 0) (hnv : numV s.data.toList = nmV 10 dg.data.toList)
    (htp : (⟨(Lib.trimPrefix s.data.toList [48, 120]).toArray⟩ : ByteArray) = dg) (hhp : Lib.hasPrefix s.data.toList [48, 120] = false) :
    Calls Tryd.prog 14 #[.string s] w fun e w' => e = .returned (numT (numV s.data.toList)) ∧ Kp w w' := by
  have HE := Lib.hid he
  have HTP := Lib.hid htp
  have HHP := Lib.hid hhp
  obtain ⟨hem, hem2⟩ := em_no hne
  obtain ⟨h0, hz⟩ := hz
  have q0 : (((dg[0]'h0).toNat : Int) == 48) = false := beq_eq_false_iff_ne.2 (by omega)
  clear hz
  have HNV := Lib.hid hnv
  have HD := Lib.hid (fun (k : Nat) (h : k < dg.size) => drop_at h)
  have HDE := Lib.hid (drop_end (s := dg) (Nat.le_refl _))
  have HLE := Lib.hid (show dg.data.toList ≠ [] from fun e => hne (by have := size_list dg; rw [e] at this; simpa using this.symm))
  have HNE := Lib.hid hne
  obtain ⟨l, hl⟩ : ∃ l, l = dg.data.toList := ⟨_, rfl⟩
  have HLL := Lib.hid hl
  rw [← hl] at HNV HD HDE HLE
  clear hl htp hhp hnv hne he
  go_enter Tryd.func14, Tryd.ntmps14
  go_wp2_with (first | (go_at_call 29; refine (c_CutPrefix s ⟨#[48, 120]⟩ _).mono ?_; rintro e w' ⟨rfl, rfl⟩; rw [show (⟨#[48, 120]⟩ : ByteArray).data.toList = [48, 120] from rfl, HTP.out, HHP.out]))
  go_loopw [9] (fun _ w' => ∃ (pos : Nat), w' = w.iter dg pos ∧ pos ≤ dg.size ∧ Hid (l.all (dgB 10) = (l.drop pos).all (dgB 10))) (fun _ w' => dg.size - w'.iterPos w.heap.size)
  case atStart => exact ⟨0, rfl, by omega, Lib.hid rfl⟩
  case round =>
    obtain ⟨pos, rfl, hpz, HA⟩ := hrel
    by_cases hp : pos < dg.size
    · have HBAD := Lib.hid (fun (hc : isDg 10 (dg[pos]'hp).toNat = false) => show numT (numV s.data.toList) = .tuple #[.int .u64 0, .int .i64 4] by
        rw [HNV.out, nmV_bad (by rw [HA.out, HD.out pos hp, List.all_cons, show dgB 10 (dg[pos]'hp) = false from hc]; rfl)]; rfl)
      have HGOOD := Lib.hid (fun (hc : isDg 10 (dg[pos]'hp).toNat = true) => show l.all (dgB 10) = (l.drop (pos + 1)).all (dgB 10) by
        rw [HA.out, HD.out pos hp, List.all_cons, show dgB 10 (dg[pos]'hp) = true from hc, Bool.true_and])
      rcases decs dg pos hp with ⟨hlt, hde⟩ | ⟨hge, hde⟩
      · obtain ⟨c, hc⟩ : ∃ c, c = (dg[pos]'hp).toNat := ⟨_, rfl⟩
        rw [← hc] at HBAD HGOOD hde hlt
        have hnx : ∀ ty, (Instr.next (.pointer (some ⟨w.heap.size, 0, none⟩)) true ty).run Tryd.prog (w.iter dg pos) = .ok (.tuple #[.bool true, .int .i64 pos, .int .i32 c]) (w.iter dg (pos + 1)) := fun ty => by
          have := run_next_any (P := Tryd.prog) w dg pos ty hp
          rw [hde] at this
          exact this
        clear hde hc
        cases hdg : isDg 10 c with
        | true =>
          have HDG := Lib.hid ((digit_10 c).trans hdg)
          have HG2 := Lib.hid (HGOOD.out hdg)
          clear HBAD HGOOD hdg
          go_wp2_with (first | (go_at_call 28; (with_reducible refine (c_isDigit _ _).mono ?_); rintro e w' ⟨rfl, rfl⟩; rw [HDG.out]))
          go_roundw
          case rel => exact ⟨pos + 1, rfl, by omega, HG2⟩
          case measure => simp; omega
        | false =>
          have HDG := Lib.hid ((digit_10 c).trans hdg)
          have HB2 := Lib.hid (HBAD.out hdg)
          clear HBAD HGOOD hdg
          go_wp2_with (first | (go_at_call 28; (with_reducible refine (c_isDigit _ _).mono ?_); rintro e w' ⟨rfl, rfl⟩; rw [HDG.out]))
          go_ret2
          exact ⟨(congrArg Ending.returned HB2.out).symm, (Kp.refl w).iter _ _⟩
      · obtain ⟨c, hcc⟩ : ∃ c : Nat, c = (Utf8.decode dg pos).1 := ⟨_, rfl⟩
        have hnx : ∀ ty, (Instr.next (.pointer (some ⟨w.heap.size, 0, none⟩)) true ty).run Tryd.prog (w.iter dg pos) = .ok (.tuple #[.bool true, .int .i64 pos, .int .i32 c]) (w.iter dg (pos + (Utf8.decode dg pos).2)) := fun ty => by
          rw [hcc]; exact run_next_any w dg pos ty hp
        have HDG := Lib.hid ((digit_10 c).trans (not_dg (by rw [hcc]; exact hde)))
        have HB2 := Lib.hid (HBAD.out (not_dg hge))
        clear HBAD HGOOD hcc hde hge
        go_wp2_with (first | (go_at_call 28; (with_reducible refine (c_isDigit _ _).mono ?_); rintro e w' ⟨rfl, rfl⟩; rw [HDG.out]))
        go_ret2
        exact ⟨(congrArg Ending.returned HB2.out).symm, (Kp.refl w).iter _ _⟩
    · obtain rfl : pos = dg.size := by omega
      have hnx : ∀ ty, (Instr.next (.pointer (some ⟨w.heap.size, 0, none⟩)) true ty).run Tryd.prog (w.iter dg dg.size) = _ := fun ty => run_next_end w dg dg.size ty hp
      have HALL := Lib.hid (show dg.data.toList.all (dgB 10) = true by rw [← HLL.out, HA.out, HDE.out]; rfl)
      cases hr : pu 10 0 dg.data.toList with
      | some n =>
        have HR := Lib.hid hr
        have HF := Lib.hid (show numT (numV s.data.toList) = .tuple #[.int .u64 n, .int .i64 0] by rw [HNV.out, nmV_ok (n := n) HLE.out (by rw [HLL.out]; exact HALL.out) (by rw [HLL.out]; exact hr)]; rfl)
        clear hr
        go_wp2_with (first | (go_at_call 31; (with_reducible refine (c_PU10 dg _ HNE.out hdz HALL.out n HR.out).mono ?_); rintro e w4 ⟨rfl, hk4⟩))
        go_ret2
        exact ⟨(congrArg Ending.returned HF.out).symm, ((Kp.refl w).iter _ _).trans hk4⟩
      | none =>
        have HR := Lib.hid hr
        have HF := Lib.hid (show numT (numV s.data.toList) = .tuple #[.int .u64 0, .int .i64 6] by rw [HNV.out, nmV_large HLE.out (by rw [HLL.out]; exact HALL.out) (by rw [HLL.out]; exact hr)]; rfl)
        clear hr
        go_wp2_with (first | (go_at_call 31; (with_reducible refine (c_PU10_none dg _ HNE.out hdz HALL.out HR.out (HE.out.keep ((Kp.refl w).iter _ _))).mono ?_); rintro e w4 ⟨N, rfl, hk4⟩))
        go_ret2
        exact ⟨(congrArg Ending.returned HF.out).symm, ((Kp.refl w).iter _ _).trans hk4⟩
set_option maxHeartbeats 3200000 in
set_option maxRecDepth 100000 in
theorem num_z (s dg : ByteArray) (w : World) (he : ErrAt w) (hs : s.size ≤ 140737488351232) (hdz : dg.size ≤ 140737488351232) (hz : ∃ h0 : 0 < dg.size, ((dg[0]'h0).toNat = 48 ∧ dg.size = 1)) (hne : dg.size ≠ 0) (hnv : numV s.data.toList = nmV 10 dg.data.toList)
    (htp : (⟨(Lib.trimPrefix s.data.toList [48, 120]).toArray⟩ : ByteArray) = dg) (hhp : Lib.hasPrefix s.data.toList [48, 120] = false) :
    Calls Tryd.prog 14 #[.string s] w fun e w' => e = .returned (numT (numV s.data.toList)) ∧ Kp w w' := by
  have HE := Lib.hid he
  have HTP := Lib.hid htp
  have HHP := Lib.hid hhp
  obtain ⟨hem, hem2⟩ := em_no hne
  obtain ⟨h0, hz, hz1⟩ := hz
  have q0 : (((dg[0]'h0).toNat : Int) == 48) = true := beq_iff_eq.2 (by omega)
  have q1 : (dg.toList != [48]) = false := by
    have e0 := drop_at (s := dg) (k := 0) h0
    have e1 := drop_end (s := dg) (k := 1) (by omega)
    simp only [List.drop_zero, Nat.zero_add] at e0
    rw [e1, show dg[0]'h0 = 48 from UInt8.toNat_inj.1 hz] at e0
    rw [ByteArray.toList_eq, e0]; rfl
  have q2 : (dg.toList == [48]) = true := by
    have := q1
    simp only [bne, Bool.not_eq_false'] at this
    exact this
  clear hz hz1
  have HNV := Lib.hid hnv
  have HD := Lib.hid (fun (k : Nat) (h : k < dg.size) => drop_at h)
  have HDE := Lib.hid (drop_end (s := dg) (Nat.le_refl _))
  have HLE := Lib.hid (show dg.data.toList ≠ [] from fun e => hne (by have := size_list dg; rw [e] at this; simpa using this.symm))
  have HNE := Lib.hid hne
  obtain ⟨l, hl⟩ : ∃ l, l = dg.data.toList := ⟨_, rfl⟩
  have HLL := Lib.hid hl
  rw [← hl] at HNV HD HDE HLE
  clear hl htp hhp hnv hne he
  go_enter Tryd.func14, Tryd.ntmps14
  go_wp2_with (first | (go_at_call 29; refine (c_CutPrefix s ⟨#[48, 120]⟩ _).mono ?_; rintro e w' ⟨rfl, rfl⟩; rw [show (⟨#[48, 120]⟩ : ByteArray).data.toList = [48, 120] from rfl, HTP.out, HHP.out]))
  go_loopw [9] (fun _ w' => ∃ (pos : Nat), w' = w.iter dg pos ∧ pos ≤ dg.size ∧ Hid (l.all (dgB 10) = (l.drop pos).all (dgB 10))) (fun _ w' => dg.size - w'.iterPos w.heap.size)
  case atStart => exact ⟨0, rfl, by omega, Lib.hid rfl⟩
  case round =>
    obtain ⟨pos, rfl, hpz, HA⟩ := hrel
    by_cases hp : pos < dg.size
    · have HBAD := Lib.hid (fun (hc : isDg 10 (dg[pos]'hp).toNat = false) => show numT (numV s.data.toList) = .tuple #[.int .u64 0, .int .i64 4] by
        rw [HNV.out, nmV_bad (by rw [HA.out, HD.out pos hp, List.all_cons, show dgB 10 (dg[pos]'hp) = false from hc]; rfl)]; rfl)
      have HGOOD := Lib.hid (fun (hc : isDg 10 (dg[pos]'hp).toNat = true) => show l.all (dgB 10) = (l.drop (pos + 1)).all (dgB 10) by
        rw [HA.out, HD.out pos hp, List.all_cons, show dgB 10 (dg[pos]'hp) = true from hc, Bool.true_and])
      rcases decs dg pos hp with ⟨hlt, hde⟩ | ⟨hge, hde⟩
      · obtain ⟨c, hc⟩ : ∃ c, c = (dg[pos]'hp).toNat := ⟨_, rfl⟩
        rw [← hc] at HBAD HGOOD hde hlt
        have hnx : ∀ ty, (Instr.next (.pointer (some ⟨w.heap.size, 0, none⟩)) true ty).run Tryd.prog (w.iter dg pos) = .ok (.tuple #[.bool true, .int .i64 pos, .int .i32 c]) (w.iter dg (pos + 1)) := fun ty => by
          have := run_next_any (P := Tryd.prog) w dg pos ty hp
          rw [hde] at this
          exact this
        clear hde hc
        cases hdg : isDg 10 c with
        | true =>
          have HDG := Lib.hid ((digit_10 c).trans hdg)
          have HG2 := Lib.hid (HGOOD.out hdg)
          clear HBAD HGOOD hdg
          go_wp2_with (first | (go_at_call 28; (with_reducible refine (c_isDigit _ _).mono ?_); rintro e w' ⟨rfl, rfl⟩; rw [HDG.out]))
          go_roundw
          case rel => exact ⟨pos + 1, rfl, by omega, HG2⟩
          case measure => simp; omega
        | false =>
          have HDG := Lib.hid ((digit_10 c).trans hdg)
          have HB2 := Lib.hid (HBAD.out hdg)
          clear HBAD HGOOD hdg
          go_wp2_with (first | (go_at_call 28; (with_reducible refine (c_isDigit _ _).mono ?_); rintro e w' ⟨rfl, rfl⟩; rw [HDG.out]))
          go_ret2
          exact ⟨(congrArg Ending.returned HB2.out).symm, (Kp.refl w).iter _ _⟩
      · obtain ⟨c, hcc⟩ : ∃ c : Nat, c = (Utf8.decode dg pos).1 := ⟨_, rfl⟩
        have hnx : ∀ ty, (Instr.next (.pointer (some ⟨w.heap.size, 0, none⟩)) true ty).run Tryd.prog (w.iter dg pos) = .ok (.tuple #[.bool true, .int .i64 pos, .int .i32 c]) (w.iter dg (pos + (Utf8.decode dg pos).2)) := fun ty => by
          rw [hcc]; exact run_next_any w dg pos ty hp
        have HDG := Lib.hid ((digit_10 c).trans (not_dg (by rw [hcc]; exact hde)))
        have HB2 := Lib.hid (HBAD.out (not_dg hge))
        clear HBAD HGOOD hcc hde hge
        go_wp2_with (first | (go_at_call 28; (with_reducible refine (c_isDigit _ _).mono ?_); rintro e w' ⟨rfl, rfl⟩; rw [HDG.out]))
        go_ret2
        exact ⟨(congrArg Ending.returned HB2.out).symm, (Kp.refl w).iter _ _⟩
    · obtain rfl : pos = dg.size := by omega
      have hnx : ∀ ty, (Instr.next (.pointer (some ⟨w.heap.size, 0, none⟩)) true ty).run Tryd.prog (w.iter dg dg.size) = _ := fun ty => run_next_end w dg dg.size ty hp
      have HALL := Lib.hid (show dg.data.toList.all (dgB 10) = true by rw [← HLL.out, HA.out, HDE.out]; rfl)
      cases hr : pu 10 0 dg.data.toList with
      | some n =>
        have HR := Lib.hid hr
        have HF := Lib.hid (show numT (numV s.data.toList) = .tuple #[.int .u64 n, .int .i64 0] by rw [HNV.out, nmV_ok (n := n) HLE.out (by rw [HLL.out]; exact HALL.out) (by rw [HLL.out]; exact hr)]; rfl)
        clear hr
        go_wp2_with (first | (go_at_call 31; (with_reducible refine (c_PU10 dg _ HNE.out hdz HALL.out n HR.out).mono ?_); rintro e w4 ⟨rfl, hk4⟩))
        go_ret2
        exact ⟨(congrArg Ending.returned HF.out).symm, ((Kp.refl w).iter _ _).trans hk4⟩
      | none =>
        have HR := Lib.hid hr
        have HF := Lib.hid (show numT (numV s.data.toList) = .tuple #[.int .u64 0, .int .i64 6] by rw [HNV.out, nmV_large HLE.out (by rw [HLL.out]; exact HALL.out) (by rw [HLL.out]; exact hr)]; rfl)
        clear hr
        go_wp2_with (first | (go_at_call 31; (with_reducible refine (c_PU10_none dg _ HNE.out hdz HALL.out HR.out (HE.out.keep ((Kp.refl w).iter _ _))).mono ?_); rintro e w4 ⟨N, rfl, hk4⟩))
        go_ret2
        exact ⟨(congrArg Ending.returned HF.out).symm, ((Kp.refl w).iter _ _).trans hk4⟩
end Go.Proofs.YtjpmgloofcgfnaaDoor
