/- The walk of ScanTokens: whatever the text. Condition: the library's variables hold what they must. -/
import Derived.Test.YtjpmgloofcgfnaaDoorG6
namespace Go.Proofs.YtjpmgloofcgfnaaDoor
open Go.RowKit
set_option linter.unusedVariables false
set_option linter.unusedSimpArgs false

theorem c_rTokens (s : ByteArray) (w : World) : Calls Tryd.prog 11 #[.string s] w (ToksP s (toksV s) w) := by
  by_cases h : 65536 < s.size
  · exact rt_large s w h
  · cases hb : badV s with
    | some p => exact rt_bad s p w (by omega) hb
    | none => exact rt_good s w (by omega) hb
theorem c_rtokE (s : ByteArray) (i e0 : Int) (w : World) (h : toksV s = .error (i, e0)) : Calls Tryd.prog 11 #[.string s] w fun e w' => e = .returned (.tuple #[.slice none 0 0, .int .i64 i, .int .i64 e0]) ∧ Kp w w' :=
  (c_rTokens s w).mono fun e w' hq => by
    rw [h] at hq
    exact ⟨hq.2, hq.1⟩
theorem c_rtokC (s : ByteArray) (L : List Tk) (N : Nat) (hN : L.length = N) (w : World) (h : toksV s = .ok L) : Calls Tryd.prog 11 #[.string s] w fun e w' => ∃ ad c, e = .returned (.tuple #[.slice ad N c, .int .i64 0, .int .i64 0]) ∧ Kp w w' ∧ Hid (TkAt w' ad L) :=
  (c_rTokens s w).mono fun e w' hq => by
    rw [h] at hq
    obtain ⟨hk, v, rfl, hown⟩ := hq
    obtain ⟨ad, c, rfl, hmx, hcl⟩ := own_slice hown (tk_len L) (by decide)
    rw [hN]
    exact ⟨ad, c, rfl, hk, Lib.hid hcl⟩
set_option maxHeartbeats 1600000 in
set_option maxRecDepth 100000 in
theorem tokens_err (s : ByteArray) (x : Int × Int) (w : World) (he : ErrAt w) (hg : SignsAt w) (hm : MaxAt w) (h : toksV s = .error x) : Calls Tryd.prog 3 #[.string s] w fun e w' => e = .returned (.bool true) ∧ Kp w w' := by
  have HE := Lib.hid he
  have HG := Lib.hid hg
  have HM := Lib.hid hm
  obtain ⟨xi, xe⟩ := x
  have CT := Lib.hid (c_tokE s xi xe w h he hg hm)
  have CR := Lib.hid (fun W => c_rtokE s xi xe W h)
  have CS := Lib.hid (fun W => c_same none none 0 0 0 [] rfl (by omega) W (fun j u hu => by simp [tkCells] at hu) (fun j u hu => by simp [tkCells] at hu))
  clear h he hg hm
  go_enter Tryd.func3, Tryd.ntmps3
  go_wp2_with (first | (go_at_call 10; (with_reducible refine (CT.out).mono ?_); rintro e w2 ⟨rfl, hk2⟩; have K2 := Lib.hid hk2; clear hk2) | (go_at_call 11; (with_reducible refine (CR.out _).mono ?_); rintro e w3 ⟨rfl, hk3⟩; have K3 := Lib.hid (K2.out.trans hk3); clear hk3) | (go_at_call 12; (with_reducible refine (c_answers _ (HE.out.keep K3.out) (HG.out.keep K3.out) (HM.out.keep K3.out)).mono ?_); rintro e w4 ⟨rfl, hk4⟩; have K4 := Lib.hid (K3.out.trans hk4); clear hk4) | (go_at_call 13; (with_reducible refine (CS.out _).mono ?_); rintro e w5 ⟨rfl, m5, rfl⟩))
  go_ret
  exact ⟨by first | rfl | simp, K4.out.drewN _⟩
set_option maxHeartbeats 1600000 in
set_option maxRecDepth 100000 in
theorem tokens_ok (s : ByteArray) (L : List Tk) (w : World) (he : ErrAt w) (hg : SignsAt w) (hm : MaxAt w) (h : toksV s = .ok L) : Calls Tryd.prog 3 #[.string s] w fun e w' => e = .returned (.bool true) ∧ Kp w w' := by
  have HE := Lib.hid he
  have HG := Lib.hid hg
  have HM := Lib.hid hm
  obtain ⟨N, hN⟩ : ∃ N, L.length = N := ⟨_, rfl⟩
  have CT := Lib.hid (c_tokC s L N hN w h he hg hm)
  have CR := Lib.hid (fun W => c_rtokC s L N hN W h)
  have HN := Lib.hid hN
  clear h he hg hm hN
  go_enter Tryd.func3, Tryd.ntmps3
  go_wp2_with (first | (go_at_call 10; (with_reducible refine (CT.out).mono ?_); rintro e w2 ⟨ad, c, rfl, hmx, hcap, hk2, HO⟩; have K2 := Lib.hid hk2; clear hk2) | (go_at_call 11; (with_reducible refine (CR.out _).mono ?_); rintro e w3 ⟨ad3, c3, rfl, hk3, HO3⟩; have K23 := Lib.hid hk3; have K3 := Lib.hid (K2.out.trans hk3); clear hk3) | (go_at_call 12; (with_reducible refine (c_answers _ (HE.out.keep K3.out) (HG.out.keep K3.out) (HM.out.keep K3.out)).mono ?_); rintro e w4 ⟨rfl, hk4⟩; have K34 := Lib.hid hk4; have K4 := Lib.hid (K3.out.trans hk4); clear hk4) | (go_at_call 13; (with_reducible refine (c_same ad ad3 c c3 N L HN.out hmx _ ((HO.out.keep K23.out).keep K34.out) (HO3.out.keep K34.out)).mono ?_); rintro e w5 ⟨rfl, m5, rfl⟩))
  go_ret
  exact ⟨by first | rfl | simp, K4.out.drewN _⟩
theorem law_ScanTokens (s : ByteArray) (w : World) (hs : s.size ≤ 140737488351232) (he : ErrAt w) (hg : SignsAt w) (hm : MaxAt w) : Calls Tryd.prog 3 #[.string s] w fun e w' => e = .returned (.bool true) ∧ Kp w w' := by
  cases h : toksV s with
  | error x => exact tokens_err s x w he hg hm h
  | ok L => exact tokens_ok s L w he hg hm h
end Go.Proofs.YtjpmgloofcgfnaaDoor
