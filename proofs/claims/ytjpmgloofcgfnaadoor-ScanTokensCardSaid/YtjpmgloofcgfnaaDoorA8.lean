/- Number of package scan, whole. Condition: the variable of the library's error holds a value of an interface. -/
import Derived.Test.YtjpmgloofcgfnaaDoorA7
namespace Go.Proofs.YtjpmgloofcgfnaaDoor
open Go.RowKit
set_option linter.unusedVariables false
set_option linter.unusedSimpArgs false

set_option maxHeartbeats 1600000 in
theorem num_empty (s dg : ByteArray) (w : World) (hb : Bool) (h0 : dg = ⟨#[]⟩) (hnv : numV s.data.toList = (0, 4)) (htp : (⟨(Lib.trimPrefix s.data.toList [48, 120]).toArray⟩ : ByteArray) = dg) (hhp : Lib.hasPrefix s.data.toList [48, 120] = hb) :
    Calls Tryd.prog 14 #[.string s] w fun e w' => e = .returned (numT (numV s.data.toList)) ∧ Kp w w' := by
  subst h0
  have HTP := Lib.hid htp
  have HHP := Lib.hid hhp
  rw [hnv, show numT (0, 4) = .tuple #[.int .u64 0, .int .i64 4] from rfl]
  clear htp hhp hnv
  cases hb <;>
  (go_enter Tryd.func14, Tryd.ntmps14
   go_wp2_with (first | (go_at_call 29; refine (c_CutPrefix s ⟨#[48, 120]⟩ _).mono ?_; rintro e w' ⟨rfl, rfl⟩; rw [show (⟨#[48, 120]⟩ : ByteArray).data.toList = [48, 120] from rfl, HTP.out, HHP.out]))
   go_ret2
   exact ⟨rfl, Kp.refl w⟩)
set_option maxHeartbeats 1600000 in
theorem num_lead (s : ByteArray) (w : World) (h2 : 2 ≤ s.size) (h0 : (s[0]'(by omega)).toNat = 48) (hnv : numV s.data.toList = (0, 4)) (htp : (⟨(Lib.trimPrefix s.data.toList [48, 120]).toArray⟩ : ByteArray) = s) (hhp : Lib.hasPrefix s.data.toList [48, 120] = false) :
    Calls Tryd.prog 14 #[.string s] w fun e w' => e = .returned (numT (numV s.data.toList)) ∧ Kp w w' := by
  have HTP := Lib.hid htp
  have HHP := Lib.hid hhp
  rw [hnv, show numT (0, 4) = .tuple #[.int .u64 0, .int .i64 4] from rfl]
  have i0 : 0 < s.size := by omega
  have q0 : (((s[0]'i0).toNat : Int) == 48) = true := beq_iff_eq.2 (by omega)
  have hne : s ≠ ⟨[48].toArray⟩ := fun e => by rw [e] at h2; exact absurd h2 (by decide)
  have q1 := ne_list hne
  have q2 : (s.toList != [48]) = true := by simp only [bne, q1]; rfl
  obtain ⟨hem, hem2⟩ := em_no (s := s) (by omega)
  clear htp hhp hnv h0 hne
  go_enter Tryd.func14, Tryd.ntmps14
  go_wp2_with (first | (go_at_call 29; refine (c_CutPrefix s ⟨#[48, 120]⟩ _).mono ?_; rintro e w' ⟨rfl, rfl⟩; rw [show (⟨#[48, 120]⟩ : ByteArray).data.toList = [48, 120] from rfl, HTP.out, HHP.out]))
  go_ret2
  exact ⟨rfl, Kp.refl w⟩
theorem c_Number (s : ByteArray) (w : World) (he : ErrAt w) (hs : s.size ≤ 140737488351232) :
    Calls Tryd.prog 14 #[.string s] w fun e w' => e = .returned (numT (numV s.data.toList)) ∧ Kp w w' := by
  by_cases hp : 2 ≤ s.size ∧ ∃ h2 : 1 < s.size, (s[0]'(by omega)).toNat = 48 ∧ (s[1]'h2).toNat = 120
  · obtain ⟨h2, _, h0, h1⟩ := hp
    obtain ⟨c1, c2⟩ := cut_yes h2 h0 h1
    have hl := size_list s
    have hsz : (⟨(s.data.toList.drop 2).toArray⟩ : ByteArray).size = s.size - 2 := by
      show (s.data.toList.drop 2).toArray.size = _
      simp only [List.size_toArray, List.length_drop, hl]
    by_cases h3 : s.size = 2
    · exact num_empty s ⟨#[]⟩ w true rfl (by rw [numV_16 h2 h0 h1, drop_end (by omega)]; rfl) (by rw [c2, drop_end (by omega)]) c1
    · exact num_16 s ⟨(s.data.toList.drop 2).toArray⟩ w he hs (by omega) (by omega) (by rw [numV_16 h2 h0 h1]) (by rw [c2]) c1
  · obtain ⟨c1, c2⟩ := cut_no hp
    by_cases hz : s.size = 0
    · exact num_empty s s w false (em_yes hz) (by rw [numV_10 (.inl (by omega)), drop_end (by omega)]; rfl) c2 c1
    · by_cases h0 : (s[0]'(by omega)).toNat = 48
      · by_cases h1 : s.size = 1
        · exact num_z s s w he hs hs ⟨by omega, h0, h1⟩ hz (by rw [numV_10 (.inl (by omega)), List.drop_zero]) c2 c1
        · exact num_lead s w (by omega) h0 (numV_bad (by omega) h0 (fun h => hp ⟨by omega, by omega, h0, h⟩)) c2 c1
      · exact num_10 s s w he hs hs ⟨by omega, h0⟩ hz (by rw [numV_10 (.inr ⟨by omega, h0⟩), List.drop_zero]) c2 c1
end Go.Proofs.YtjpmgloofcgfnaaDoor
