/- FillAll of the reference, with names and with what stands for them. Condition: the types lie in memory; what is made of each is handed in. -/
import Derived.Test.YtfjflfokmihcpaaF2
import Derived.Test.YtfjflfokmihcpaaFp
import Derived.Test.YtfjflfokmihcpaaSp
namespace Go.Proofs.Ytfjflfokmihcpaa
open Go.RowKit
set_option linter.unusedVariables false
set_option linter.unusedSimpArgs false
theorem c_FillAllG (ns asv : Value) (w0 : World) (φ : Ty → Ty) (r rr : Nat)
    (cf : ∀ (X : Ty) (hx : Hd) (W : World), Kp w0 W → Lies W A0 r X hx → Calls Try.prog 18 #[hx.val, ns, asv] W (FillP rr (φ X) W))
    (l : List Ty) (N : Nat) (hN : l.length = N) (ad : Option Addr) (c : Nat) (K : Nat → Hd) (w : World) (h0 : Kp w0 w) (hl : LiesAll w A0 r l ad c K) (hb : N * 104 ≤ 140737488351232) :
    Calls Try.prog 16 #[.slice ad N c, ns, asv] w fun e w' => ∃ ad c K', e = .returned (.slice ad N c) ∧ LiesAll w' (From w.heap.size) rr (l.map φ) ad c K' ∧ Kp w w' := by
  obtain ⟨i0, hi, hz0, hz1, hz2⟩ := info_parts infoT
  have HL := Lib.hid hl
  have CF := Lib.hid cf
  have H0 := Lib.hid h0
  have HN := Lib.hid hN
  clear hl cf h0 hN
  go_enter Try.func16, Try.ntmps16
  go_wp2_with fail
  go_loopw [7, 8] (fun v i wr => ∃ n K', n ≤ N ∧ i = .int .i64 (n : Nat) ∧ KidsIn wr w.heap.size 42 6 rr (l.map φ) n v (fun _ => []) K' ∧ Kp w wr) (fun _ i _ => N - (intOf i).toNat)
  case atStart => exact ⟨0, K, by omega, rfl, kidsIn_nil _ _ _ _ _ _ _ _, Kp.refl _⟩
  case round =>
    obtain ⟨n, K', hn, rfl, hI, hkr⟩ := hrel
    have HI := Lib.hid hI
    have HK := Lib.hid hkr
    clear hI hkr
    by_cases hlt : n < N
    · obtain ⟨b, o, ha, hr⟩ := HL.out.1.at (by have := HN.out; omega)
      have HA := Lib.hid ha
      have HR := Lib.hid (hr n (by have := HN.out; omega))
      clear ha hr
      obtain ⟨X, hX⟩ : ∃ X, l[n]? = some X := ⟨_, List.getElem?_eq_getElem (by have := HN.out; omega)⟩
      have HX := Lib.hid hX
      have HX' := Lib.hid (show (l.map φ)[n]? = some (φ X) by rw [List.getElem?_map, hX]; rfl)
      clear hX
      have hsz := HK.out.sz
      go_wp2_with (first | ((with_reducible show wpList _ _ _ (⟨some 18, _, _, _, _, _⟩ :: _) _ _); refine wpList_index_tab (d := 18) _ _ _ rfl 42 Try.underlying23 6 rfl _ _ _ _ o (by rfl) HA.out n (by rfl) hlt ?_) | ((with_reducible show wpList _ _ _ (⟨some 19, _, _, _, _, _⟩ :: _) _ _); refine wpList_load_ty (d := 19) _ _ rfl _ Try.underlying42 w _ _ b (o + n * 6) (by rfl) rfl (by first | rfl | omega) (K n) HR.out HK.out rfl ?_) | (go_at_call 18; refine (CF.out X (K n) _ (H0.out.trans HK.out) ((HL.out.2 n X HX.out).keep HK.out)).mono ?_; rintro e w1 ⟨h', rfl, hli, hk1⟩) | ((with_reducible show wpList _ _ _ (⟨some 24, _, _, _, _, _⟩ :: _) _ _); refine wpList_append_one_at (d := 24) _ _ 23 rfl w.heap.size 42 i0 _ 6 104 Try.underlying23 hi hz0 hz1 hz2 rfl (by decide) _ n _ (by rfl) _ ((HI.out.keep hk1).1) h'.cells _ _ _ (by rfl) (by first | rfl | simp) (by rfl) (by rfl) (Hd.one _) (by unfold maxLen; omega) (by omega) (by have := hk1.sz; omega) ?_; intro v1 w3 ho1 hg1 hat))
      go_roundw
      case rel => exact ⟨n + 1, put K' n h', by omega, by go_num, KidsIn.next hsz HI.out HX'.out hk1 hli ((Kp.refl _).alloc _) ho1 hg1 hat, (HK.out.trans (hk1.alloc _)).grown hg1 (fun k hk => (HI.out.1.lt k hk).1)⟩
      case measure => simp [intOf]; omega
    · obtain rfl : N = n := by omega
      go_wp2_with fail
      go_ret
      have hI := HI.out
      rw [← HN.out, ← List.length_map (f := φ)] at hI
      obtain ⟨ad', c', rfl, _, hall⟩ := hI.all
      have hlen : (l.map φ).length = N := by rw [List.length_map, HN.out]
      exact ⟨ad', c', K', by rw [hlen]; rfl, hall, HK.out⟩
end Go.Proofs.Ytfjflfokmihcpaa
