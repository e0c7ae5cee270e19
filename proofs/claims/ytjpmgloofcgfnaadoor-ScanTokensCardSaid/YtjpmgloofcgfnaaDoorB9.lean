/- What each law asks first; the walk of ScanWords. Condition: the library's variables hold what they must. -/
import Derived.Test.YtjpmgloofcgfnaaDoorB8
namespace Go.Proofs.YtjpmgloofcgfnaaDoor
open Go.RowKit
set_option linter.unusedVariables false
set_option linter.unusedSimpArgs false

def xB : ByteArray := ⟨#[120]⟩
theorem x_word : inB wordsL xB = false := inB_no (by
  simp only [wordsL, xB, List.mem_cons, List.not_mem_nil, or_false, not_or]
  refine ⟨?_, ?_, ?_, ?_, ?_, ?_, ?_, ?_, ?_, ?_, ?_, ?_, ?_, ?_, ?_, ?_, ?_, ?_⟩ <;> (intro h; have h2 := congrArg ByteArray.size h; revert h2; decide))
theorem x_dec : Utf8.decode xB 0 = (120, 1) := by rfl
theorem x_span : spanE xB = 1 := by
  unfold spanE
  rw [show xB.size = 1 from rfl, spanAt, if_pos (by decide), x_dec, if_pos (by decide)]
  rfl
theorem x_first : firstV xB 120 = (⟨1, xB, 0, 0⟩, 0) := by
  have he : xB.extract 0 (spanE xB) = xB := by rw [x_span]; exact ext_all xB
  unfold firstV
  rw [if_pos (by decide), he]
  unfold namedV
  rw [if_neg (by rw [x_word]; decide), if_neg (by decide)]
def xToks : List Tk := [⟨1, xB, 0, 0⟩, ⟨5, ⟨#[]⟩, 0, 1⟩]
theorem x_bad : badV xB = none := by
  unfold badV
  rw [show xB.size = 1 from rfl, brkFrom, if_pos (by decide), x_dec, if_neg (by decide)]
  rfl
theorem x_read : readV xB 0 [] 0 120 = .ok (1, [⟨1, xB, 0, 0⟩]) := by
  have he : xB.extract 0 xB.size = xB := ext_all xB
  unfold readV
  rw [if_neg (by decide), if_neg (by decide), if_neg (by decide), he, x_first]
  rfl
theorem x_toks : toksV xB = .ok xToks := by
  unfold toksV
  rw [if_neg (by decide), x_bad]
  rw [show xB.size = 1 from rfl]
  simp only
  rw [scanFrom, if_pos (by decide), if_neg (by decide), x_dec]
  rw [show ((120, 1) : Nat × Nat).1 = 120 from rfl]
  rw [show readV xB 0 [] 0 ((120 : Nat) : Int) = .ok (1, [⟨1, xB, 0, 0⟩]) from x_read]
  simp only
  rw [scanFrom]
  have h1 : endV [⟨1, xB, 0, 0⟩] (xB.size : Int) = some xToks := by
    unfold endV
    rw [show ([⟨1, xB, 0, 0⟩] : List Tk).getLast? = some ⟨1, xB, 0, 0⟩ from rfl]
    simp only [show endsB ⟨1, xB, 0, 0⟩ = true by simp [endsB]]
    rfl
  rw [h1]
/-- Where the tokens lie. -/
theorem own_at {w : World} {B : Nat} {e : TypeId} {m n : Nat} {v : Value} {xs : List Value} (h : w.ownsRow B e m v n xs) (hn : 0 < n) : ∃ g c, v = .slice (some ⟨g, 0, none⟩) n c ∧ ∀ j u, xs[j]? = some u → w.cell? ⟨g, j, none⟩ = some u := by
  rcases h.2 with ⟨_, h0⟩ | ⟨g, cap, cur, hv, hg0, hg, _, _, hsz, htk⟩
  · omega
  · refine ⟨g, cap, hv, fun j u hu => ?_⟩
    rw [← htk, List.getElem?_take] at hu
    split at hu
    · rw [cell_of_row w g j cur _ _ hg]; simpa using hu
    · cases hu
theorem func_word : inB wordsL ⟨#[102, 117, 110, 99]⟩ = true := inB_yes (by simp [wordsL])
set_option maxHeartbeats 1600000 in
theorem c_answers (w : World) (he : ErrAt w) (hg : SignsAt w) (hm : MaxAt w) : Calls Tryd.prog 12 #[] w fun e w' => e = .returned (.bool true) ∧ Kp w w' := by
  have HX := Lib.hid x_toks
  have HF := Lib.hid func_word
  have CT := Lib.hid (c_Tokens xB w he hg hm)
  clear he hg hm
  go_enter Tryd.func12, Tryd.ntmps12
  go_wp2_with (first | (go_at_call 10; refine (CT.out).mono ?_; rintro e w2 hq; rw [HX.out] at hq; obtain ⟨hk2, v, rfl, hown⟩ := hq; obtain ⟨g, c, hv, hcell⟩ := own_at hown (by decide); rw [hv]; have d1 : w2.cell? ⟨g, 1, none⟩ = some (.string ⟨#[120]⟩) := hcell 1 _ rfl; have K2 := Lib.hid hk2; clear hown hcell hk2 hv; rw [show xToks.length = 2 from rfl]) | (go_at_call 18; (with_reducible refine (c_Word _ _).mono ?_); rintro e w3 ⟨rfl, rfl⟩; rw [HF.out]))
  go_ret
  exact ⟨by first | rfl | (simp; done), K2.out⟩
theorem law_ScanWords (s : ByteArray) (w : World) (hs : s.size ≤ 140737488351232) (he : ErrAt w) (hg : SignsAt w) (hm : MaxAt w) : Calls Tryd.prog 4 #[.string s] w fun e w' => e = .returned (.bool true) ∧ Kp w w' := by
  obtain ⟨n, er, hn⟩ : ∃ n er, numV s.data.toList = (n, er) := ⟨_, _, rfl⟩
  have HN := Lib.hid (show numT (numV s.data.toList) = .tuple #[.int .u64 n, .int .i64 er] by rw [hn]; rfl)
  have HE := Lib.hid he
  have HG := Lib.hid hg
  have HM := Lib.hid hm
  clear hn he hg hm
  go_enter Tryd.func4, Tryd.ntmps4
  go_wp2_with (first | (go_at_call 14; (with_reducible refine (c_Number s _ HE.out hs).mono ?_); rintro e w2 ⟨rfl, hk2⟩; have K2 := Lib.hid hk2; clear hk2; rw [HN.out]) | (go_at_call 15; (with_reducible refine (c_rNumber s _ hs).mono ?_); rintro e w3 ⟨rfl, rfl⟩; rw [HN.out]) | (go_at_call 12; (with_reducible refine (c_answers _ (HE.out.keep K2.out) (HG.out.keep K2.out) (HM.out.keep K2.out)).mono ?_); rintro e w4 ⟨rfl, hk4⟩; have K4 := Lib.hid (K2.out.trans hk4); clear hk4) | (go_at_call 16; (with_reducible refine (c_scanName s _ hs).mono ?_); rintro e w5 ⟨rfl, hk5⟩; have K5 := Lib.hid (K4.out.trans hk5); clear hk5) | (go_at_call 17; (with_reducible refine (c_rName s _ hs).mono ?_); rintro e w6 ⟨rfl, hk6⟩; have K6 := Lib.hid (K5.out.trans hk6); clear hk6) | (go_at_call 18; (with_reducible refine (c_Word s _).mono ?_); rintro e w7 ⟨rfl, rfl⟩) | (go_at_call 19; (with_reducible refine (c_rWord s _).mono ?_); rintro e w8 ⟨rfl, hk8⟩; have K8 := Lib.hid (K6.out.trans hk8); clear hk8))
  go_ret
  exact ⟨by first | rfl | (simp; done), K8.out⟩
end Go.Proofs.YtjpmgloofcgfnaaDoor
