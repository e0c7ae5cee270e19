/- The token that a text begins with. Condition: the signs and the library's error lie in their variables. -/
import Derived.Test.YtjpmgloofcgfnaaDoorB2
namespace Go.Proofs.YtjpmgloofcgfnaaDoor
open Go.RowKit
set_option linter.unusedVariables false
set_option linter.unusedSimpArgs false

theorem boxR {w W : World} {t : Tk} {e : TypeId} (hk : Kp (w.alloc (.cells #[.int .i64 t.k, .string t.text, .int .u64 t.n, .int .i64 t.pos] e)) W) :
    W.cell? ⟨w.heap.size, 0, none⟩ = some (.int .i64 t.k) ∧ W.cell? ⟨w.heap.size, 1, none⟩ = some (.string t.text) ∧ W.cell? ⟨w.heap.size, 2, none⟩ = some (.int .u64 t.n) ∧ W.cell? ⟨w.heap.size, 3, none⟩ = some (.int .i64 t.pos) ∧ (∀ j, W.frozen? ⟨w.heap.size, j, none⟩ = false) ∧ w.heap.size < W.heap.size := by
  obtain ⟨a, b, c, d, f⟩ := boxT hk
  have hb := (hk.blk (b := w.heap.size) (by simp)).trans (heap_alloc_new _ _)
  exact ⟨a, b, c, d, fun j => frozen_of_row _ _ _ _ _ hb, f⟩
/-- What the token is that a text begins with, whose first character is c; its place is told later. -/
noncomputable def firstV (s : ByteArray) (c : Int) : Tk × Int :=
  if lt c = true then namedV (s.extract 0 (spanE s))
  else if decide (48 ≤ c ∧ c ≤ 57) = true then (⟨2, s.extract 0 (spanE s), (numV (s.extract 0 (spanE s)).data.toList).1, 0⟩, (numV (s.extract 0 (spanE s)).data.toList).2)
  else if signV s.data.toList = ⟨#[]⟩ then (noTk, 4)
  else if signV s.data.toList = ⟨#[59]⟩ then (⟨5, ⟨#[59]⟩, 0, 0⟩, 0)
  else (⟨4, signV s.data.toList, 0, 0⟩, 0)
theorem size_ext (s : ByteArray) (n : Nat) : (s.extract 0 n).size ≤ s.size := by
  simp [ByteArray.size_extract]
  omega
set_option maxHeartbeats 1600000 in
theorem first_a (s : ByteArray) (c : Int) (w : World) (hs : s.size ≤ 140737488351232) (he : ErrAt w) (hg : SignsAt w) (h : lt c = true) :
    Calls Tryd.prog 38 #[.string s, .int .i32 c] w fun e w' => e = .returned (tkE (firstV s c)) ∧ Kp w w' := by
  have HE := Lib.hid he
  have HG := Lib.hid hg
  have HSZ := Lib.hid (Nat.le_trans (size_ext s (spanE s)) hs)
  rw [show firstV s c = namedV (s.extract 0 (spanE s)) by unfold firstV; rw [if_pos h]]
  have HLT := Lib.hid h
  obtain ⟨k, tx, n, q, er, hn⟩ : ∃ k tx n q er, namedV (s.extract 0 (spanE s)) = ((⟨k, tx, n, q⟩ : Tk), er) := ⟨_, _, _, _, _, rfl⟩
  have HN := Lib.hid hn
  rw [hn]
  clear h he hg hn
  go_enter Tryd.func38, Tryd.ntmps38
  go_wp2_with (first | (go_at_call 46; (with_reducible refine (c_isLetter _ _).mono ?_); rintro e w' ⟨rfl, rfl⟩; rw [HLT.out]) | (go_at_call 51; (with_reducible refine (c_span s _ hs).mono ?_); rintro e w2 ⟨rfl, hk2⟩; have K2 := Lib.hid hk2; clear hk2) | (go_at_call 50; (with_reducible refine (c_named _ _ HSZ.out).mono ?_); rintro e w3 ⟨rfl, hk3⟩; obtain ⟨u0, u1, u2, u3, uf, uz⟩ := boxR (t := noTk) (Kp.trans K2.out hk3); simp only [noTk] at u0 u1 u2 u3; have K3 := Lib.hid (K2.out.trans hk3); clear hk3; rw [HN.out, show tkE (⟨k, tx, n, q⟩, er) = .tuple #[.agg #[.int .i64 k, .string tx, .int .u64 n, .int .i64 q], .int .i64 er] from rfl]))
  refine bodyPost_ret (v := tkE (⟨k, tx, n, q⟩, er)) (by simp [results, Tryd.results38, go_sem, tkE, u0, u1, u2, u3, uf, uz]) rfl ⟨rfl, ?_⟩
  repeat (first | exact (((Kp.refl w).alloc _).trans K3.out) | refine Kp.setCell ?_ (by simp) _)
set_option maxHeartbeats 1600000 in
theorem first_b (s : ByteArray) (c : Int) (w : World) (hs : s.size ≤ 140737488351232) (he : ErrAt w) (hg : SignsAt w) (h : lt c = false) (hd : decide (48 ≤ c ∧ c ≤ 57) = true) :
    Calls Tryd.prog 38 #[.string s, .int .i32 c] w fun e w' => e = .returned (tkE (firstV s c)) ∧ Kp w w' := by
  have HE := Lib.hid he
  have HG := Lib.hid hg
  have HSZ := Lib.hid (Nat.le_trans (size_ext s (spanE s)) hs)
  rw [show firstV s c = (⟨2, s.extract 0 (spanE s), (numV (s.extract 0 (spanE s)).data.toList).1, 0⟩, (numV (s.extract 0 (spanE s)).data.toList).2) by unfold firstV; rw [if_neg (by rw [h]; decide), if_pos hd]]
  have HLT := Lib.hid h
  have HDG := Lib.hid hd
  clear h hd he hg
  go_enter Tryd.func38, Tryd.ntmps38
  go_wp2_with (first | (go_at_call 46; (with_reducible refine (c_isLetter _ _).mono ?_); rintro e w' ⟨rfl, rfl⟩; rw [HLT.out]) | (go_at_call 28; (with_reducible refine (c_isDigit _ _).mono ?_); rintro e w' ⟨rfl, rfl⟩; rw [HDG.out]) | (go_at_call 51; (with_reducible refine (c_span s _ hs).mono ?_); rintro e w2 ⟨rfl, hk2⟩; have K2 := Lib.hid hk2; clear hk2) | (go_at_call 14; (with_reducible refine (c_Number _ _ (HE.out.keep (((Kp.refl w).alloc _).trans K2.out)) HSZ.out).mono ?_); rintro e w3 ⟨rfl, hk3⟩; obtain ⟨u0, u1, u2, u3, uf, uz⟩ := boxR (t := noTk) (Kp.trans K2.out hk3); simp only [noTk] at u0 u1 u2 u3; have K3 := Lib.hid (K2.out.trans hk3); clear hk3; rw [show numT (numV (s.extract 0 (spanE s)).data.toList) = .tuple #[.int .u64 (numV (s.extract 0 (spanE s)).data.toList).1, .int .i64 (numV (s.extract 0 (spanE s)).data.toList).2] from rfl]))
  refine bodyPost_ret (v := tkE (⟨2, s.extract 0 (spanE s), (numV (s.extract 0 (spanE s)).data.toList).1, 0⟩, (numV (s.extract 0 (spanE s)).data.toList).2)) (by simp [results, Tryd.results38, go_sem, tkE, u0, u1, u2, u3, uf, uz]) rfl ⟨rfl, ?_⟩
  repeat (first | exact (((Kp.refl w).alloc _).trans K3.out) | refine Kp.setCell ?_ (by simp) _)
set_option maxHeartbeats 1600000 in
theorem first_c (s : ByteArray) (c : Int) (w : World) (hs : s.size ≤ 140737488351232) (he : ErrAt w) (hg : SignsAt w) (h : lt c = false) (hd : decide (48 ≤ c ∧ c ≤ 57) = false) (hv : signV s.data.toList = ⟨#[]⟩) :
    Calls Tryd.prog 38 #[.string s, .int .i32 c] w fun e w' => e = .returned (tkE (firstV s c)) ∧ Kp w w' := by
  have HE := Lib.hid he
  have HG := Lib.hid hg
  have HSZ := Lib.hid (Nat.le_trans (size_ext s (spanE s)) hs)
  rw [show firstV s c = (noTk, 4) by unfold firstV; rw [if_neg (by rw [h]; decide), if_neg (by rw [hd]; decide), if_pos hv]]
  have HLT := Lib.hid h
  have HDG := Lib.hid hd
  have HSV := Lib.hid hv
  clear h hd he hg hv
  go_enter Tryd.func38, Tryd.ntmps38
  go_wp2_with (first | (go_at_call 46; (with_reducible refine (c_isLetter _ _).mono ?_); rintro e w' ⟨rfl, rfl⟩; rw [HLT.out]) | (go_at_call 28; (with_reducible refine (c_isDigit _ _).mono ?_); rintro e w' ⟨rfl, rfl⟩; rw [HDG.out]) | (go_at_call 52; (with_reducible refine (c_sign s _ (HG.out.keep ((Kp.refl w).alloc _))).mono ?_); rintro e w2 ⟨rfl, rfl⟩; rw [HSV.out]))
  refine bodyPost_ret (v := tkE (noTk, 4)) (by simp [results, Tryd.results38, go_sem, tkE, noTk]) rfl ⟨rfl, ?_⟩
  repeat (first | exact ((Kp.refl w).alloc _) | refine Kp.setCell ?_ (by simp) _)
set_option maxHeartbeats 1600000 in
theorem first_d (s : ByteArray) (c : Int) (w : World) (hs : s.size ≤ 140737488351232) (he : ErrAt w) (hg : SignsAt w) (h : lt c = false) (hd : decide (48 ≤ c ∧ c ≤ 57) = false) (hv : signV s.data.toList = ⟨#[59]⟩) :
    Calls Tryd.prog 38 #[.string s, .int .i32 c] w fun e w' => e = .returned (tkE (firstV s c)) ∧ Kp w w' := by
  have HE := Lib.hid he
  have HG := Lib.hid hg
  have HSZ := Lib.hid (Nat.le_trans (size_ext s (spanE s)) hs)
  rw [show firstV s c = (⟨5, ⟨#[59]⟩, 0, 0⟩, 0) by unfold firstV; rw [if_neg (by rw [h]; decide), if_neg (by rw [hd]; decide), if_neg (by rw [hv]; decide), if_pos hv]]
  have HLT := Lib.hid h
  have HDG := Lib.hid hd
  have HSV := Lib.hid hv
  clear h hd he hg hv
  go_enter Tryd.func38, Tryd.ntmps38
  go_wp2_with (first | (go_at_call 46; (with_reducible refine (c_isLetter _ _).mono ?_); rintro e w' ⟨rfl, rfl⟩; rw [HLT.out]) | (go_at_call 28; (with_reducible refine (c_isDigit _ _).mono ?_); rintro e w' ⟨rfl, rfl⟩; rw [HDG.out]) | (go_at_call 52; (with_reducible refine (c_sign s _ (HG.out.keep ((Kp.refl w).alloc _))).mono ?_); rintro e w2 ⟨rfl, rfl⟩; rw [HSV.out]))
  refine bodyPost_ret (v := tkE (⟨5, ⟨#[59]⟩, 0, 0⟩, 0)) (by simp [results, Tryd.results38, go_sem, tkE]) rfl ⟨rfl, ?_⟩
  repeat (first | exact ((Kp.refl w).alloc _) | refine Kp.setCell ?_ (by simp) _)
set_option maxHeartbeats 1600000 in
theorem first_e (s : ByteArray) (c : Int) (w : World) (hs : s.size ≤ 140737488351232) (he : ErrAt w) (hg : SignsAt w) (h : lt c = false) (hd : decide (48 ≤ c ∧ c ≤ 57) = false) (g : ByteArray) (hv : signV s.data.toList = g) (g0 : g ≠ ⟨#[]⟩) (g1 : g ≠ ⟨#[59]⟩) :
    Calls Tryd.prog 38 #[.string s, .int .i32 c] w fun e w' => e = .returned (tkE (firstV s c)) ∧ Kp w w' := by
  have HE := Lib.hid he
  have HG := Lib.hid hg
  have HSZ := Lib.hid (Nat.le_trans (size_ext s (spanE s)) hs)
  rw [show firstV s c = (⟨4, g, 0, 0⟩, 0) by unfold firstV; rw [if_neg (by rw [h]; decide), if_neg (by rw [hd]; decide), if_neg (by rw [hv]; exact g0), if_neg (by rw [hv]; exact g1), hv]]
  obtain ⟨hem, hem2⟩ := em_no (s := g) (fun e => g0 (em_yes e))
  have q1 : (g.toList == [59]) = false := ne_list g1
  clear g0 g1
  have HLT := Lib.hid h
  have HDG := Lib.hid hd
  have HSV := Lib.hid hv
  clear h hd he hg hv
  go_enter Tryd.func38, Tryd.ntmps38
  go_wp2_with (first | (go_at_call 46; (with_reducible refine (c_isLetter _ _).mono ?_); rintro e w' ⟨rfl, rfl⟩; rw [HLT.out]) | (go_at_call 28; (with_reducible refine (c_isDigit _ _).mono ?_); rintro e w' ⟨rfl, rfl⟩; rw [HDG.out]) | (go_at_call 52; (with_reducible refine (c_sign s _ (HG.out.keep ((Kp.refl w).alloc _))).mono ?_); rintro e w2 ⟨rfl, rfl⟩; rw [HSV.out]))
  refine bodyPost_ret (v := tkE (⟨4, g, 0, 0⟩, 0)) (by simp [results, Tryd.results38, go_sem, tkE]) rfl ⟨rfl, ?_⟩
  repeat (first | exact ((Kp.refl w).alloc _) | refine Kp.setCell ?_ (by simp) _)
theorem c_first (s : ByteArray) (c : Int) (w : World) (hs : s.size ≤ 140737488351232) (he : ErrAt w) (hg : SignsAt w) :
    Calls Tryd.prog 38 #[.string s, .int .i32 c] w fun e w' => e = .returned (tkE (firstV s c)) ∧ Kp w w' := by
  cases h : lt c with
  | true => exact first_a s c w hs he hg h
  | false =>
    cases hd : decide (48 ≤ c ∧ c ≤ 57) with
    | true => exact first_b s c w hs he hg h hd
    | false =>
      by_cases g0 : signV s.data.toList = ⟨#[]⟩
      · exact first_c s c w hs he hg h hd g0
      by_cases g1 : signV s.data.toList = ⟨#[59]⟩
      · exact first_d s c w hs he hg h hd g1
      · exact first_e s c w hs he hg h hd _ rfl g0 g1
end Go.Proofs.YtjpmgloofcgfnaaDoor
