/- Proved: for any kind, any constant, sound or not, and any word, Fits, Of and Text of package konst tell which kinds have the constant and as which word, which constant the word is, and the constant's decimal digits, with the document's own errors; as a card that ties the library's three listed tables to the program's text. Condition, which the card ties: those tables hold what their initialisers lay. The tie speaks of the pruned copy of the project that the seat holds. -/
import Derived.Test.YtihchlkoohficaaDoorRows
import Derived.Test.YtihchlkoohficaaDoorCards
import Derived.Test.YtihchlkoohficaaDoorTie
import Derived.Test.YtihchlkoohficaaDoorDE
import Derived.Test.YtihchlkoohficaaDoorKN
import Derived.WalkKit
import Derived.ProofKit
import Derived.OpenShut
import Derived.Carry
import Derived.LaidMore
import Derived.Lay
import Derived.SevenTiedAt
import Derived.Stop.Joined
import Derived.Stop.LaidErr
namespace Go.Proofs.YtihchlkoohficaaDoor.konstWords
open Go.ChangeShapes Go.WideShapes Go.ChangeAt Go.RowKit
set_option linter.unusedVariables false
set_option linter.unusedSimpArgs false
open Plain
theorem fits_no {k : Int} {b : Bool} {n : Int} (hw : wh k = true) (hk : kc b n = true) (hn : 0 ≤ n ∧ n < 18446744073709551616) (hin : inV k b n = false) (w : World) :
    Calls Tryd.prog 4 #[.int .i64 k, .bool b, .int .u64 n] w fun e w' => e = .returned (.tuple #[.int .u64 0, .int .i64 10]) ∧ Kp w w' := by
  rw [in_v hw hk hn] at hin
  cases hi : iz k (wd b n) with
  | false => exact t_is k b n w hn hw hk hi
  | true =>
    cases hg : (ng k (wd b n) == b) with
    | false => exact t_ng k b n w hn hw hk hi hg
    | true =>
      rw [hi, hg, Bool.true_and, Bool.true_and] at hin
      exact t_sz k b n w hn hw hk hi (by simpa using hg) hin
theorem fits_yes {k : Int} {b : Bool} {n : Int} (hw : wh k = true) (hk : kc b n = true) (hn : 0 ≤ n ∧ n < 18446744073709551616) (hin : inV k b n = true) (w : World) :
    Calls Tryd.prog 4 #[.int .i64 k, .bool b, .int .u64 n] w fun e w' => e = .returned (.tuple #[.int .u64 (wd b n), .int .i64 0]) ∧ Kp w w' := by
  rw [in_v hw hk hn] at hin
  obtain ⟨hi, h2⟩ := Bool.and_eq_true_iff.1 hin
  obtain ⟨hg, hz⟩ := Bool.and_eq_true_iff.1 h2
  exact t_good k b n w hn hw hk hi (by simpa using hg) (by simpa using hz)
theorem law_KonstWords (k : Int) (b : Bool) (n q : Int) (w : World) (hn : 0 ≤ n ∧ n < 18446744073709551616) (hq : 0 ≤ q ∧ q < 18446744073709551616) (htab : TabP w) :
    Calls Tryd.prog 3 #[.int .i64 k, .agg #[.bool b, .int .u64 n], .int .u64 q] w fun e w' => e = .returned (.bool true) ∧ Below w.heap.size w w' := by
  cases hw : wh k with
  | false =>
    have h1 := fun w => t_kind k b n w hn hw
    have h2 := fun w => o_kind k q w hq hw
    cases hk : kc b n with
    | false => exact kw_A k b n q w hn hq hk hw htab h1 h2
    | true => exact kw_B k b n q w hn hq hk hw htab h1 h2
  | true =>
    cases hi : iz k q with
    | true =>
      have he : e1 k q = 0 := by simp [e1, hw, hi]
      have h2 := fun w => o_good k q w hq hw hi
      cases hk : kc b n with
      | false => exact kw_Cg k b n q w hn hq hk hw htab hi he (fun w => t_form k b n w hn hw hk) h2
      | true =>
        cases hin : inV k b n with
        | false => exact kw_Dg k b n q w hn hq hk hw htab hi he hin (fits_no hw hk hn hin) h2
        | true => exact kw_Eg k b n q w hn hq hk hw htab hi he hin (fits_yes hw hk hn hin) h2
    | false =>
      have he : e1 k q = 1 := by simp [e1, hw, hi]
      have h2 := fun w => o_form k q w hq hw hi
      cases hk : kc b n with
      | false => exact kw_Cf k b n q w hn hq hk hw htab hi he (fun w => t_form k b n w hn hw hk) h2
      | true =>
        cases hin : inV k b n with
        | false => exact kw_Df k b n q w hn hq hk hw htab hi he hin (fits_no hw hk hn hin) h2
        | true => exact kw_Ef k b n q w hn hq hk hw htab hi he hin (fits_yes hw hk hn hin) h2

theorem own : ownKnob Tryd.prog.godebug = none := by kernel_rfl
theorem laidOut : laidOutB Tryd.prog = true := by kernel_rfl
/-- What the row lists. -/
def laid3 : List (String × DataW Unit) := [("math/bits.deBruijn32tab", Rows.laid_math_bits_deBruijn32tab), ("math/bits.deBruijn64tab", Rows.laid_math_bits_deBruijn64tab), ("internal/strconv.uint64pow10", Rows.laid_internal_strconv_uint64pow10)]
theorem is_tab : (Rows.laid_internal_strconv_uint64pow10 : DataW Unit) = Lib.tabData .u64 Lib.pow10Tab := by kernel_rfl
theorem tab_of {W : World} (h : laidMetH Tryd.prog laid3 W) : TabP W := by
  rw [MakeChecks.laidMetH_plain _ _ _ (by kernel_rfl)] at h
  have h2 := h.tail.tail
  rw [is_tab] at h2
  exact Lib.tabIs_of_head (g := 0) (t := 79) (e := 22) (n := 20) (by kernel_rfl) (by kernel_rfl) Tryd.underlying79 Tryd.underlying22 (by kernel_rfl) (by kernel_rfl) h2

set_option maxRecDepth 100000 in
theorem lifted (os : Os) (started : os.Started) (H : Type) (enc : TypeId × Value → H) :
    ReturnsInHanded {} Tryd.checked os 3 .any (fun w args => (Rows.konstWordsSpec.pre enc Tryd.prog Tryd.f3 Rows.konstWordsRow.domain false w args ∧ laidMetH Tryd.prog laid3 w) ∧ sizedMet enc Tryd.prog Tryd.f3 (OpenSpec.ofChange Rows.konstWordsSpec) false w args)
      (Rows.konstWordsSpec.post enc Tryd.prog Tryd.f3 false true false false) := by
  refine returnsInHanded_of_change_and (C := Tryd.checked) (X := fun w _ => laidMetH Tryd.prog laid3 w) (fun _ _ _ hh h => h.of_heap hh) own started (by kernel_rfl) Tryd.func3
    (ChangeSpec.witness_shaped (enc := enc) (C := Tryd.checked) (os := os) (X := fun w _ => laidMetH Tryd.prog laid3 w) false (World.laidAll Tryd.prog os laid3) #[.int .i64 0, .agg #[.bool false, .int .u64 0], .int .u64 0] 8 (World.laidAll_os _ _ _)
      (World.shaped_of_ZipB (by kernel_rfl) (by kernel_rfl)) (by kernel_rfl) (by kernel_rfl) (by kernel_rfl)
      (by rw [MakeChecks.laidMetH_plain _ _ _ (by kernel_rfl)]; exact laidMet_laidAll _ (by kernel_rfl) (by kernel_rfl))) ?_
  intro W base args ds gs before hval0 hW hc _ hL _
  have hval : ∀ (j : Nat) t v, Tryd.f3.params[j]? = some t → args[j]? = some v → Value.okWide Tryd.prog W .any base t v := hval0
  have hW' := hW
  obtain ⟨p, q, hA0, hV, rfl, hfz, hnd⟩ := hW
  have hA : DataW.TrodAll enc Tryd.prog W 0 (fun _ => true) true Tryd.f3.params.toList args.toList ds p := hA0
  rw [Tryd.params3] at hA hval
  obtain ⟨v0, v1, v2, d0, d1, d2, p0, p1, p2, rfl, rfl, rfl, h0, h1, h2⟩ := trodAll_three hA
  obtain ⟨rfl, rfl⟩ := trodVars_none hV
  have s0 := h0
  have s1 := h1
  have s2 := h2
  obtain ⟨a0, rfl, rfl, rfl, w0⟩ := open_int Tryd.underlying3 (hval 0 3 v0 rfl rfl) h0
  obtain ⟨b1, n1, rfl, z1⟩ := open_num (hval 1 24 v1 rfl rfl) h1
  obtain ⟨a2, rfl, rfl, rfl, w2⟩ := open_int Tryd.underlying22 (hval 2 22 v2 rfl rfl) h2
  have htab := tab_of hL
  clear hA0 hval0
  have hlt : ∀ x ∈ [] ++ (p1 ++ []), x.block < W.heap.size := fun x hx => by simpa using hW'.lt x (by simpa using hx)
  refine (law_KonstWords a0 b1 n1 a2 W z1 (r_u64 w2) htab).mono fun e W' ⟨he, hg⟩ => ?_
  subst he
  refine ⟨_, rfl, _, _, _, [], [] ++ (p1 ++ []), [], hW', trodAll_mk1 (shut_bool Tryd.underlying4 _), ?_, rfl, hg.frame _, fun h => by cases h⟩
  exact trodAll_mk3 (Below.trod laidOut (by kernel_rfl) (of_decide_eq_true (by kernel_rfl)) s0 hg (fun x hx => by cases hx)) (Below.trod laidOut (by kernel_rfl) (of_decide_eq_true (by kernel_rfl)) s1 hg (fun x hx => hlt x (by simp [hx]))) (Below.trod laidOut (by kernel_rfl) (of_decide_eq_true (by kernel_rfl)) s2 hg (fun x hx => by cases hx))

theorem row_holds : Rows.KonstWordsSaid :=
  OpenClaim.holds_of_wide 3 Tryd.f3 rfl rfl rfl rfl rfl rfl rfl ⟨rfl, rfl, rfl, rfl, rfl⟩ rfl rfl rfl rfl rfl (by kernel_rfl) Tryd.func3 (by kernel_rfl)
    (of_decide_eq_true (by kernel_rfl)) (by unfold Func.isWrapper; first | (rw [if_pos (by decide +kernel)]; kernel_rfl) | (rw [if_neg (by decide +kernel)]; exact ⟨rfl, rfl⟩))
    (fun os started H enc _ => lifted os started H enc)

/-- THE TIED CARD. -/
theorem card_holds : Rows.KonstWordsCardSaid :=
  Claim7.holds_tied_plain_at .later [] [.data, .data, .data] true (true, "cee06ea5cf637f06cfb5123d6d74ff9d2c6fdf4c92c2c2d52bd037e36d977999") false
    row_holds (fun _ h => by cases h) (by kernel_rfl) (fun _ h => by cases h) konstWords_row_tie rfl ⟨rfl, rfl⟩ (by kernel_rfl) rfl
    (fun f fn hf hfn => by
      obtain rfl : f = 3 := Option.some.inj ((show Tryd.prog.funcNamed "mullion/mullionlaw07.KonstWords" = some 3 by kernel_rfl).symm.trans hf) |>.symm
      obtain rfl : fn = Tryd.f3 := (Option.some.inj (Tryd.func3.symm.trans hfn)).symm
      exact ⟨by kernel_rfl, fun j t ht => by
        rw [Tryd.params3] at ht
        have hm : t ∈ [3, 24, 22] := by simpa using Array.mem_of_getElem? ht
        have hall : ([3, 24, 22].all fun u => !Tryd.prog.wantsStandIn u) = true := by kernel_rfl
        exact (show Tryd.prog.wantsStandIn t = false by simpa using List.all_eq_true.1 hall t hm)⟩)
    (by kernel_rfl)
#print axioms card_holds
end Go.Proofs.YtihchlkoohficaaDoor.konstWords
