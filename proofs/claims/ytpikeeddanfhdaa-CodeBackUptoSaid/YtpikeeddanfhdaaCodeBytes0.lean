/- The walk of CodeBytes. Condition: the module lies in memory, and is of no more than a million numbers or so. -/
import Derived.Test.YtpikeeddanfhdaaR4
import Derived.Test.YtpikeeddanfhdaaO1
import Derived.Test.YtpikeeddanfhdaaC0
import Derived.Laws.BytesArg
import Derived.Laws.IdiomStrings
namespace Go.Proofs.Ytpikeeddanfhdaa
open Go.RowKit
set_option linter.unusedVariables false
set_option linter.unusedSimpArgs false
/-- Bytes as a text. -/
theorem run_bytes (w : World) {B : Sel} {l : List UInt8} {a : Option Addr} {c : Nat} (h : BL w B l (.slice a l.length c)) : (convert 37 9 (.slice a l.length c)).run Try.prog w = .ok (.string ⟨l.toArray⟩) w := by
  obtain ⟨a', c', C, he, hlc, _, hC, ht, hx⟩ := h
  simp only [Value.slice.injEq, true_and] at he
  obtain ⟨rfl, rfl⟩ := he
  cases a with
  | none =>
    have hl : l = [] := by
      cases l with
      | nil => rfl
      | cons x l =>
        obtain ⟨h0, _⟩ := ht
        have := (h0 rfl).1
        simp at this
    subst hl
    have := run_convert_bytes_nil (P := Try.prog) w 37 5 Try.underlying37 Try.underlying5 0 c 9 Try.underlying9
    have e : ByteArray.empty = ⟨([] : List UInt8).toArray⟩ := rfl
    rw [← e]
    exact this
  | some ad =>
    by_cases h0 : 0 < l.length
    · obtain ⟨b, o, ha, hr⟩ := ht.at h0
      cases ha
      refine run_convert_bytes_back w 37 9 5 ⟨b, o, none⟩ c l Try.underlying37 Try.underlying5 Try.underlying9 (fun j hj => ?_)
      have := hr j hj 0 (.int .u8 (l[j].toNat : Int)) (by rw [hx j l[j] (List.getElem?_eq_getElem hj)]; rfl)
      simpa [Addr.add_mid] using this
    · have hl : l = [] := List.eq_nil_of_length_eq_zero (by omega)
      subst hl
      exact run_convert_bytes_back w 37 9 5 ad c [] Try.underlying37 Try.underlying5 Try.underlying9 (fun j hj => by simp at hj)
set_option maxHeartbeats 1600000 in
set_option maxRecDepth 100000 in
theorem law_CodeBytes (m : Mo) (v1 v2 : Value) (w : World) (hx : LM w A0 m [v1, v2]) (hz : (itMo m).length ≤ 1048576) :
    Calls Try.prog 4 #[.agg #[v1, v2]] w fun e w' => e = .returned (.bool true) ∧ Kp w w' := by
  have HK0 := Lib.hid ((Kp.refl w).alloc (.cells #[v1, v2] 25))
  have HX := Lib.hid (goodM.keep hx HK0.out)
  have HZ := Lib.hid hz
  obtain ⟨m0, m1⟩ := row2 (heap_alloc_new w (.cells #[v1, v2] 25))
  clear hx hz
  go_enter Try.func4, Try.ntmps4
  go_wp2_with (first | (go_at_call 11; (with_reducible refine (c_Own m v1 v2 _ HX.out).mono ?_); rintro e w1 ⟨z1, z2, rfl, hl, hk1⟩; have HL := Lib.hid (goodM.weak hl (A0_le _)); have HK1 := Lib.hid hk1; replace m0 := hk1.cellv m0; replace m1 := hk1.cellv m1; clear hl hk1) | (go_at_call 16; (with_reducible refine (c_Encode m _ _ _ HL.out (by have := HZ.out; omega)).mono ?_); rintro e w2 ⟨v, rfl, hb, hk2⟩; have HK2 := Lib.hid hk2; have HB2 := Lib.hid hb; replace m0 := hk2.cellv m0; replace m1 := hk2.cellv m1; obtain ⟨ax, cx, _, rfl, _⟩ := HB2.out; clear hb hk2) | (go_at_call 17; (with_reducible refine (c_Bytes m v1 v2 _ (goodM.keep HX.out (HK1.out.trans HK2.out)) (by have := HZ.out; omega)).mono ?_); rintro e w3 ⟨v, rfl, hb, hk3⟩; have HK3 := Lib.hid hk3; have HB3 := Lib.hid hb; obtain ⟨ay, cy, _, rfl, _⟩ := HB3.out; clear hb hk3) | (go_at_call 13; (with_reducible refine (c_answers _).mono ?_); rintro e w4 ⟨rfl, hk4⟩; have HK4 := Lib.hid hk4; clear hk4; have hs1 := run_bytes w4 (HB2.out.keep goodB (HK3.out.trans HK4.out)); have hs2 := run_bytes w4 (HB3.out.keep goodB HK4.out)))
  go_ret
  exact ⟨rfl, HK0.out.trans (HK1.out.trans (HK2.out.trans (HK3.out.trans HK4.out)))⟩
end Go.Proofs.Ytpikeeddanfhdaa
