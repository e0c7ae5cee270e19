/- Whether a shape has what its kind asks for, by the program. Condition: it lies in memory. -/
import Derived.Test.YtkkcoaecidjecaaE2
namespace Go.Proofs.Ytkkcoaecidjecaa
open Go.RowKit
set_option linter.unusedVariables false
set_option linter.unusedSimpArgs false
set_option maxHeartbeats 2000000 in
set_option maxRecDepth 100000 in
theorem c_isFormed (s : Sh) (n : Int) (cs : List Value) (w : World) (h : LS w A0 s cs) :
    Calls Try.prog 62 #[.agg cs.toArray, .int .i64 n] w (Tell (formB s n) w) := by
  obtain ⟨k, l, r⟩ := s
  obtain ⟨V, rfl, hv, hk, hr⟩ := h
  simp only at hv hk hr
  have hr0 := heap_alloc_new w (.cells #[.int .i64 k, V, .int .i64 r] 45)
  obtain ⟨c0, c1, c2⟩ := row3 hr0
  have HV := Lib.hid (hv.keep goodI ((Kp.refl w).alloc (.cells #[.int .i64 k, V, .int .i64 r] 45)))
  obtain ⟨a1, q1, C1, rfl, _, hby1, _, _, _⟩ := id hv
  have hc1 : l.length ≤ 140737488351232 := by omega
  clear hv hr0 hk hr hby1
  cases hxy : areB l n 16 with
  | true =>
    have HXY := Lib.hid hxy
    clear hxy
    have HI := Lib.hid (fun w' : World => c_isResult r n w')
    go_enter Try.func62, Try.ntmps62
    go_wp2_with (first | (go_at_call 65; (with_reducible refine (c_areShapes l n 16 _ _ HV.out).mono ?_); rintro e w2 ⟨rfl, h2⟩; have HK2 := Lib.hid h2; have c0 := h2.cellv c0; have c1 := h2.cellv c1; have c2 := h2.cellv c2; clear h2; rw [HXY.out]) | (go_at_call 66; (with_reducible refine (HI.out _).mono ?_); rintro e w3 ⟨rfl, h3⟩; have HK3 := Lib.hid h3; clear h3))
    all_goals go_ret
    all_goals first | (exact tell (by have h := HXY.out; simp_all [formB, kindB, resB]; first | done | omega | (intros; omega) | (rintro _ _ rfl; simp_all; done) | (rintro _ _ rfl; simp_all; omega)) (((Kp.refl w).alloc _).trans HK2.out)) | (exact tell (by have h := HXY.out; simp_all [formB, kindB, resB]; first | done | omega | (intros; omega)) ((((Kp.refl w).alloc _).trans HK2.out).trans HK3.out)) | skip
  | false =>
    have HXY := Lib.hid hxy
    clear hxy
    go_enter Try.func62, Try.ntmps62
    go_wp2_with (first | (go_at_call 65; (with_reducible refine (c_areShapes l n 16 _ _ HV.out).mono ?_); rintro e w2 ⟨rfl, h2⟩; have HK2 := Lib.hid h2; clear h2; rw [HXY.out]))
    go_ret
    exact tell (by simp [formB, HXY.out]) (((Kp.refl w).alloc _).trans HK2.out)
end Go.Proofs.Ytkkcoaecidjecaa
