/- What a type's head must be: the reference's shape. No condition. -/
import Derived.Test.YtfjflfokmihcpaaT3
namespace Go.Proofs.Ytfjflfokmihcpaa
open Go.RowKit
set_option linter.unusedVariables false
set_option linter.unusedSimpArgs false

def fnAt (fn : List ByteArray) (i : Nat) : ByteArray := fn.getD i ByteArray.empty
/-- The first n are names, no two of them the same. -/
def NamesTo (fn : List ByteArray) (n : Nat) : Prop := ∀ i, i < n → nmB (fnAt fn i) = true ∧ ∀ k, k < i → fnAt fn k ≠ fnAt fn i
def Differ (fn : List ByteArray) (i n : Nat) : Prop := ∀ k, k < n → fnAt fn k ≠ fnAt fn i
noncomputable def namesB (fn : List ByteArray) : Bool := @decide (NamesTo fn fn.length) (Classical.propDecidable _)
theorem namesB_yes {fn : List ByteArray} (h : NamesTo fn fn.length) : namesB fn = true := by unfold namesB; exact @decide_eq_true _ (Classical.propDecidable _) h
theorem namesB_no {fn : List ByteArray} (h : ¬ NamesTo fn fn.length) : namesB fn = false := by unfold namesB; exact @decide_eq_false _ (Classical.propDecidable _) h
theorem names_succ {fn : List ByteArray} {n : Nat} (h : NamesTo fn n) (h1 : nmB (fnAt fn n) = true) (h2 : Differ fn n n) : NamesTo fn (n + 1) := fun i hi => by
  by_cases e : i = n
  · subst e; exact ⟨h1, h2⟩
  · exact h i (by omega)
theorem names_bad {fn : List ByteArray} {n : Nat} (hn : n < fn.length) (h1 : nmB (fnAt fn n) = false) : namesB fn = false := namesB_no fun h => by
  have := (h n hn).1
  rw [h1] at this
  cases this
theorem names_twice {fn : List ByteArray} {n k : Nat} (hn : n < fn.length) (hk : k < n) (h1 : fnAt fn k = fnAt fn n) : namesB fn = false := namesB_no fun h => (h n hn).2 k hk h1

/-- What a type must be at its head. -/
noncomputable def fm (h : Hd) (fn : List ByteArray) : Bool :=
  if h.k = 8 then namesB fn && (bareB h true false true false false && nmB h.nm && decide (h.fl ≤ 16))
  else if h.k = 9 ∨ h.k = 10 then bareB h false false false true false && decide (h.ll = 1)
  else if h.k = 11 then bareB h false false false true true && decide (h.ll ≤ 16 ∧ h.rl ≤ 1)
  else if h.k = 12 then bareB h true true false false false && nmB h.nm && decide (1 ≤ h.con ∧ h.con ≤ 3)
  else decide (1 ≤ h.k ∧ h.k ≤ 7) && bareB h false false false false false

theorem same_or (a b : ByteArray) : (a = b ∧ (a.toList == b.toList) = true) ∨ (a ≠ b ∧ (a.toList == b.toList) = false) := by
  by_cases h : a = b
  · left; exact ⟨h, by rw [h]; simp⟩
  · right
    refine ⟨h, ?_⟩
    rw [beq_eq_false_iff_ne]
    intro e
    rw [ByteArray.toList_eq, ByteArray.toList_eq] at e
    apply h
    obtain ⟨a⟩ := a
    obtain ⟨b⟩ := b
    congr
    exact Array.toList_inj.1 e
set_option maxHeartbeats 1000000 in
set_option maxRecDepth 100000 in
theorem shape8a (T : Ty) (h : Hd) (K : Nat → Hd) (w : World) (t : Top w A0 T h K) (hk : h.k = 8) (h0 : h.fl = 0) :
    Calls Try.prog 48 #[h.val] w fun x w' => x = .returned (.bool (fm h T.fn)) ∧ Kp w w' := by
  have hf := t.ef
  have rn := t.rn
  obtain ⟨k, nm, con, fa, fl, fc, la, ll, lc, ra, rl, rc⟩ := h
  simp only at hk h0 hf rn
  subst hk
  subst h0
  have hnn : namesB T.fn = true := namesB_yes (by rw [hf]; exact fun i hi => absurd hi (by omega))
  have hn := Lib.hid rn
  clear t hf rn
  have HN := Lib.hid hnn
  clear hnn
  have hkr : Kp (w.alloc (.cells #[.int .i64 8, .string nm, .int .i64 con, .slice fa 0 fc, .slice la ll lc, .slice ra rl rc] 42)) (w.alloc (.cells #[.int .i64 8, .string nm, .int .i64 con, .slice fa 0 fc, .slice la ll lc, .slice ra rl rc] 42)) := Kp.refl _
  have e0 : fm ⟨8, nm, con, fa, 0, fc, la, ll, lc, ra, rl, rc⟩ T.fn = (bareB ⟨8, nm, con, fa, 0, fc, la, ll, lc, ra, rl, rc⟩ true false true false false && nmB nm && decide (0 ≤ 16)) := by simp [fm, HN.out]
  have E0 := Lib.hid e0; clear e0
  cases c1 : bareB ⟨8, nm, con, fa, 0, fc, la, ll, lc, ra, rl, rc⟩ true false true false false with
  | false =>
    go_enter Try.func48, Try.ntmps48; go_wp2_with fail; refine wp_loop_rounds 1 ?_; rw [rounds_succ]; go_wp2_with (first | (go_at_call 57; (with_reducible refine (c_bare8 ⟨8, nm, con, fa, 0, fc, la, ll, lc, ra, rl, rc⟩ _).mono ?_); rintro e w' ⟨rfl, hkb⟩; obtain ⟨_, z1, _, z3, _, _, zs⟩ := boxed (h := ⟨8, nm, con, fa, 0, fc, la, ll, lc, ra, rl, rc⟩) (Kp.trans hkr hkb); simp only at z1 z3; rw [c1]))
    go_ret
    exact ⟨ret_bool (by rw [E0.out, c1]; rfl), ((Kp.refl w).alloc _).trans (Kp.trans hkr hkb)⟩
  | true =>
    cases c2 : nmB nm with
    | false =>
      go_enter Try.func48, Try.ntmps48; go_wp2_with fail; refine wp_loop_rounds 1 ?_; rw [rounds_succ]; go_wp2_with (first | (go_at_call 57; (with_reducible refine (c_bare8 ⟨8, nm, con, fa, 0, fc, la, ll, lc, ra, rl, rc⟩ _).mono ?_); rintro e w' ⟨rfl, hkb⟩; obtain ⟨_, z1, _, z3, _, _, zs⟩ := boxed (h := ⟨8, nm, con, fa, 0, fc, la, ll, lc, ra, rl, rc⟩) (Kp.trans hkr hkb); simp only at z1 z3; rw [c1]) | (go_at_call 56; (with_reducible refine (c_Name _ _ hn.out).mono ?_); rintro e w' ⟨rfl, hkn⟩; obtain ⟨_, y1, _, y3, _, _, ys⟩ := boxed (h := ⟨8, nm, con, fa, 0, fc, la, ll, lc, ra, rl, rc⟩) (Kp.trans (Kp.trans hkr hkb) hkn); simp only at y1 y3; rw [c2]))
      go_ret
      exact ⟨ret_bool (by rw [E0.out, c1, c2]; rfl), ((Kp.refl w).alloc _).trans (Kp.trans (Kp.trans hkr hkb) hkn)⟩
    | true =>
      go_enter Try.func48, Try.ntmps48; go_wp2_with fail; refine wp_loop_rounds 1 ?_; rw [rounds_succ]; go_wp2_with (first | (go_at_call 57; (with_reducible refine (c_bare8 ⟨8, nm, con, fa, 0, fc, la, ll, lc, ra, rl, rc⟩ _).mono ?_); rintro e w' ⟨rfl, hkb⟩; obtain ⟨_, z1, _, z3, _, _, zs⟩ := boxed (h := ⟨8, nm, con, fa, 0, fc, la, ll, lc, ra, rl, rc⟩) (Kp.trans hkr hkb); simp only at z1 z3; rw [c1]) | (go_at_call 56; (with_reducible refine (c_Name _ _ hn.out).mono ?_); rintro e w' ⟨rfl, hkn⟩; obtain ⟨_, y1, _, y3, _, _, ys⟩ := boxed (h := ⟨8, nm, con, fa, 0, fc, la, ll, lc, ra, rl, rc⟩) (Kp.trans (Kp.trans hkr hkb) hkn); simp only at y1 y3; rw [c2]))
      go_ret
      exact ⟨ret_bool (by rw [E0.out, c1, c2]; first | (simp; done) | (simp; omega)), ((Kp.refl w).alloc _).trans (Kp.trans (Kp.trans hkr hkb) hkn)⟩
set_option maxHeartbeats 1600000 in
set_option maxRecDepth 100000 in
theorem shape8b (T : Ty) (h : Hd) (K : Nat → Hd) (w : World) (t : Top w A0 T h K) (hk : h.k = 8) (h0 : 0 < h.fl) :
    Calls Try.prog 48 #[h.val] w fun x w' => x = .returned (.bool (fm h T.fn)) ∧ Kp w w' := by
  obtain ⟨b', o', ha', hr⟩ := t.tf.at h0
  have hb := t.bf
  have hf := t.ef
  have rn := t.rn
  have rns := t.rns
  obtain ⟨k, nm, con, fa, fl, fc, la, ll, lc, ra, rl, rc⟩ := h
  simp only at hk ha' h0 hr hb hf rn
  subst hk
  subst ha'
  have hF := Lib.hid hf
  have hn := Lib.hid rn
  have hns : Hid (∀ i, i < fl → (fnAt T.fn i).size ≤ 140737488351232) := Lib.hid (fun i hi => by
    unfold fnAt
    rw [List.getD_eq_getElem?_getD, List.getElem?_eq_getElem (by omega)]
    exact rns _ (List.getElem_mem _))
  clear t hf rn rns
  have HR := Lib.hid hr
  clear hr
  go_enter Try.func48, Try.ntmps48
  go_wp2_with fail
  go_loopw [3] (fun i wr => ∃ n : Nat, n ≤ fl ∧ i = .int .i64 n ∧ NamesTo T.fn n ∧ Kp (w.alloc (.cells #[.int .i64 8, .string nm, .int .i64 con, .slice (some ⟨b', o', none⟩) fl fc, .slice la ll lc, .slice ra rl rc] 42)) wr) (fun i _ => fl - (intOf i).toNat)
  case atStart => exact ⟨0, by omega, rfl, fun i hi => absurd hi (by omega), Kp.refl _⟩
  case round =>
    obtain ⟨n, hnl, rfl, hN, hkr⟩ := hrel
    obtain ⟨p0, p1, p2, p3, p4, p5, ps⟩ := boxed (h := ⟨8, nm, con, (some ⟨b', o', none⟩), fl, fc, la, ll, lc, ra, rl, rc⟩) hkr
    simp only at p0 p1 p2 p3 p4 p5
    have HN := Lib.hid hN
    clear hN
    by_cases hlt : n < fl
    · obtain ⟨wo, rfl⟩ : ∃ wo : World, wo = wr := ⟨_, rfl⟩
      go_wp2_with fail
      go_loopw [4] (fun i wr => ∃ j : Nat, j ≤ n ∧ i = .int .i64 j ∧ Differ T.fn n j ∧ Kp (w.alloc (.cells #[.int .i64 8, .string nm, .int .i64 con, .slice (some ⟨b', o', none⟩) fl fc, .slice la ll lc, .slice ra rl rc] 42)) wr) (fun i _ => n - (intOf i).toNat)
      case atStart => exact ⟨0, by omega, rfl, fun i hi => absurd hi (by omega), hkr⟩
      case round =>
        obtain ⟨j, hj, rfl, hD, hkr2⟩ := hrel
        obtain ⟨q0, q1, q2, q3, q4, q5, qs⟩ := boxed (h := ⟨8, nm, con, (some ⟨b', o', none⟩), fl, fc, la, ll, lc, ra, rl, rc⟩) hkr2
        simp only at q0 q1 q2 q3 q4 q5
        have HD := Lib.hid hD
        clear hD
        have g1 : wr.cell? ⟨b', o' + n * 7, none⟩ = some (.string (fnAt T.fn n)) := ((Kp.refl w).alloc _ |>.trans hkr2).cellv (rangeAt_head (HR.out n hlt))
        have i1 : (0 : Int) ≤ n := by omega
        have i2 : (n : Int) < fl := by omega
        by_cases hlt2 : j < n
        · have g2 : wr.cell? ⟨b', o' + j * 7, none⟩ = some (.string (fnAt T.fn j)) := ((Kp.refl w).alloc _ |>.trans hkr2).cellv (rangeAt_head (HR.out j (by omega)))
          have i3 : (0 : Int) ≤ j := by omega
          have i4 : (j : Int) < fl := by omega
          rcases same_or (fnAt T.fn j) (fnAt T.fn n) with ⟨e1, e2⟩ | ⟨e1, e2⟩
          · have E := Lib.hid e1
            clear e1
            go_wp2_with fail
            go_quiet (fail)
            go_wp2_with fail
            go_ret
            exact ⟨ret_bool (by simp [fm, names_twice (by rw [hF.out]; exact hlt) hlt2 E.out]), ((Kp.refl w).alloc _).trans (hkr2.drewN _)⟩
          · have E := Lib.hid e1
            clear e1
            go_wp2_with fail
            go_quiet (fail)
            go_wp2_with fail
            go_roundw
            case rel => exact ⟨j + 1, by omega, by go_num, fun k hk => by
              by_cases e : k = j
              · subst e; exact E.out
              · exact HD.out k (by omega), hkr2.drewN _⟩
            case measure => simp [intOf]; omega
        · obtain rfl : j = n := by omega
          cases c3 : nmB (fnAt T.fn j) with
          | false =>
            go_wp2_with (go_at_call 56; (with_reducible refine (c_Name _ _ (hns.out _ hlt)).mono ?_); rintro e w' ⟨rfl, hkn⟩; rw [c3])
            go_ret
            exact ⟨ret_bool (by simp [fm, names_bad (by rw [hF.out]; exact hlt) c3]), ((Kp.refl w).alloc _).trans (hkr2.trans hkn)⟩
          | true =>
            go_wp2_with (go_at_call 56; (with_reducible refine (c_Name _ _ (hns.out _ hlt)).mono ?_); rintro e w' ⟨rfl, hkn⟩; rw [c3])
            go_roundw
            case rel => exact ⟨j + 1, by omega, by go_num, names_succ HN.out c3 HD.out, hkr2.trans hkn⟩
            case measure => simp [intOf]; omega
    · obtain rfl : fl = n := by omega
      have HK := Lib.hid (namesB_yes (by rw [hF.out]; exact HN.out))
      clear HN
      have e0 : fm ⟨8, nm, con, (some ⟨b', o', none⟩), fl, fc, la, ll, lc, ra, rl, rc⟩ T.fn = (bareB ⟨8, nm, con, (some ⟨b', o', none⟩), fl, fc, la, ll, lc, ra, rl, rc⟩ true false true false false && nmB nm && decide (fl ≤ 16)) := by simp [fm, HK.out]
      have E0 := Lib.hid e0; clear e0
      cases c1 : bareB ⟨8, nm, con, (some ⟨b', o', none⟩), fl, fc, la, ll, lc, ra, rl, rc⟩ true false true false false with
      | false =>
        go_wp2_with (first | (go_at_call 57; (with_reducible refine (c_bare8 ⟨8, nm, con, (some ⟨b', o', none⟩), fl, fc, la, ll, lc, ra, rl, rc⟩ _).mono ?_); rintro e w' ⟨rfl, hkb⟩; obtain ⟨_, z1, _, z3, _, _, zs⟩ := boxed (h := ⟨8, nm, con, (some ⟨b', o', none⟩), fl, fc, la, ll, lc, ra, rl, rc⟩) (Kp.trans hkr hkb); simp only at z1 z3; rw [c1]))
        go_ret
        exact ⟨ret_bool (by rw [E0.out, c1]; rfl), ((Kp.refl w).alloc _).trans (Kp.trans hkr hkb)⟩
      | true =>
        cases c2 : nmB nm with
        | false =>
          go_wp2_with (first | (go_at_call 57; (with_reducible refine (c_bare8 ⟨8, nm, con, (some ⟨b', o', none⟩), fl, fc, la, ll, lc, ra, rl, rc⟩ _).mono ?_); rintro e w' ⟨rfl, hkb⟩; obtain ⟨_, z1, _, z3, _, _, zs⟩ := boxed (h := ⟨8, nm, con, (some ⟨b', o', none⟩), fl, fc, la, ll, lc, ra, rl, rc⟩) (Kp.trans hkr hkb); simp only at z1 z3; rw [c1]) | (go_at_call 56; (with_reducible refine (c_Name _ _ hn.out).mono ?_); rintro e w' ⟨rfl, hkn⟩; obtain ⟨_, y1, _, y3, _, _, ys⟩ := boxed (h := ⟨8, nm, con, (some ⟨b', o', none⟩), fl, fc, la, ll, lc, ra, rl, rc⟩) (Kp.trans (Kp.trans hkr hkb) hkn); simp only at y1 y3; rw [c2]))
          go_ret
          exact ⟨ret_bool (by rw [E0.out, c1, c2]; rfl), ((Kp.refl w).alloc _).trans (Kp.trans (Kp.trans hkr hkb) hkn)⟩
        | true =>
          go_wp2_with (first | (go_at_call 57; (with_reducible refine (c_bare8 ⟨8, nm, con, (some ⟨b', o', none⟩), fl, fc, la, ll, lc, ra, rl, rc⟩ _).mono ?_); rintro e w' ⟨rfl, hkb⟩; obtain ⟨_, z1, _, z3, _, _, zs⟩ := boxed (h := ⟨8, nm, con, (some ⟨b', o', none⟩), fl, fc, la, ll, lc, ra, rl, rc⟩) (Kp.trans hkr hkb); simp only at z1 z3; rw [c1]) | (go_at_call 56; (with_reducible refine (c_Name _ _ hn.out).mono ?_); rintro e w' ⟨rfl, hkn⟩; obtain ⟨_, y1, _, y3, _, _, ys⟩ := boxed (h := ⟨8, nm, con, (some ⟨b', o', none⟩), fl, fc, la, ll, lc, ra, rl, rc⟩) (Kp.trans (Kp.trans hkr hkb) hkn); simp only at y1 y3; rw [c2]))
          go_ret
          exact ⟨ret_bool (by rw [E0.out, c1, c2]; first | (simp; done) | (simp; omega)), ((Kp.refl w).alloc _).trans (Kp.trans (Kp.trans hkr hkb) hkn)⟩
set_option maxHeartbeats 1600000 in
set_option maxRecDepth 100000 in
theorem shape9 (h : Hd) (fn : List ByteArray) (w : World) (hk : h.k = 9) (rn : h.nm.size ≤ 140737488351232) (rk : -9223372036854775808 ≤ h.k ∧ h.k ≤ 9223372036854775807) (rc' : -9223372036854775808 ≤ h.con ∧ h.con ≤ 9223372036854775807) :
    Calls Try.prog 48 #[h.val] w fun x w' => x = .returned (.bool (fm h fn)) ∧ Kp w w' := by
  obtain ⟨k, nm, con, fa, fl, fc, la, ll, lc, ra, rl, rc⟩ := h
  simp only at hk rn rk rc'
  subst hk
  have hn := Lib.hid rn
  clear rn
  have e0 : fm ⟨9, nm, con, fa, fl, fc, la, ll, lc, ra, rl, rc⟩ fn = (bareB ⟨9, nm, con, fa, fl, fc, la, ll, lc, ra, rl, rc⟩ false false false true false && decide (ll = 1)) := by simp [fm]
  have E0 := Lib.hid e0; clear e0
  cases c1 : bareB ⟨9, nm, con, fa, fl, fc, la, ll, lc, ra, rl, rc⟩ false false false true false with
  | false =>
    go_enter Try.func48, Try.ntmps48
    go_wp2_with (first | (go_at_call 57; (with_reducible refine (c_bare9 ⟨9, nm, con, fa, fl, fc, la, ll, lc, ra, rl, rc⟩ _).mono ?_); rintro e w' ⟨rfl, hkb⟩; obtain ⟨z0, z1, z2, z3, z4, z5, zs⟩ := boxed (h := ⟨9, nm, con, fa, fl, fc, la, ll, lc, ra, rl, rc⟩) hkb; simp only at z0 z1 z2 z3 z4 z5; rw [c1]))
    go_ret
    exact ⟨ret_bool (by rw [E0.out, c1]; first | rfl | (simp; done) | (simp; omega) | (simp [*]; done)), ((Kp.refl w).alloc _).trans hkb⟩
  | true =>
    by_cases c3 : ll = 1
    · subst c3
      go_enter Try.func48, Try.ntmps48
      go_wp2_with (first | (go_at_call 57; (with_reducible refine (c_bare9 ⟨9, nm, con, fa, fl, fc, la, 1, lc, ra, rl, rc⟩ _).mono ?_); rintro e w' ⟨rfl, hkb⟩; obtain ⟨z0, z1, z2, z3, z4, z5, zs⟩ := boxed (h := ⟨9, nm, con, fa, fl, fc, la, 1, lc, ra, rl, rc⟩) hkb; simp only at z0 z1 z2 z3 z4 z5; rw [c1]))
      go_ret
      exact ⟨ret_bool (by rw [E0.out, c1]; first | rfl | (simp; done) | (simp; omega) | (simp [*]; done)), ((Kp.refl w).alloc _).trans hkb⟩
    · have d3 : ((ll : Int) == 1) = false := beq_eq_false_iff_ne.2 (by omega)
      go_enter Try.func48, Try.ntmps48
      go_wp2_with (first | (go_at_call 57; (with_reducible refine (c_bare9 ⟨9, nm, con, fa, fl, fc, la, ll, lc, ra, rl, rc⟩ _).mono ?_); rintro e w' ⟨rfl, hkb⟩; obtain ⟨z0, z1, z2, z3, z4, z5, zs⟩ := boxed (h := ⟨9, nm, con, fa, fl, fc, la, ll, lc, ra, rl, rc⟩) hkb; simp only at z0 z1 z2 z3 z4 z5; rw [c1]))
      go_ret
      exact ⟨ret_bool (by rw [E0.out, c1, decide_eq_false c3]; first | rfl | (simp; done) | (simp; omega) | (simp [*]; done)), ((Kp.refl w).alloc _).trans hkb⟩
set_option maxHeartbeats 1600000 in
set_option maxRecDepth 100000 in
theorem shape10 (h : Hd) (fn : List ByteArray) (w : World) (hk : h.k = 10) (rn : h.nm.size ≤ 140737488351232) (rk : -9223372036854775808 ≤ h.k ∧ h.k ≤ 9223372036854775807) (rc' : -9223372036854775808 ≤ h.con ∧ h.con ≤ 9223372036854775807) :
    Calls Try.prog 48 #[h.val] w fun x w' => x = .returned (.bool (fm h fn)) ∧ Kp w w' := by
  obtain ⟨k, nm, con, fa, fl, fc, la, ll, lc, ra, rl, rc⟩ := h
  simp only at hk rn rk rc'
  subst hk
  have hn := Lib.hid rn
  clear rn
  have e0 : fm ⟨10, nm, con, fa, fl, fc, la, ll, lc, ra, rl, rc⟩ fn = (bareB ⟨10, nm, con, fa, fl, fc, la, ll, lc, ra, rl, rc⟩ false false false true false && decide (ll = 1)) := by simp [fm]
  have E0 := Lib.hid e0; clear e0
  cases c1 : bareB ⟨10, nm, con, fa, fl, fc, la, ll, lc, ra, rl, rc⟩ false false false true false with
  | false =>
    go_enter Try.func48, Try.ntmps48
    go_wp2_with (first | (go_at_call 57; (with_reducible refine (c_bare9 ⟨10, nm, con, fa, fl, fc, la, ll, lc, ra, rl, rc⟩ _).mono ?_); rintro e w' ⟨rfl, hkb⟩; obtain ⟨z0, z1, z2, z3, z4, z5, zs⟩ := boxed (h := ⟨10, nm, con, fa, fl, fc, la, ll, lc, ra, rl, rc⟩) hkb; simp only at z0 z1 z2 z3 z4 z5; rw [c1]))
    go_ret
    exact ⟨ret_bool (by rw [E0.out, c1]; first | rfl | (simp; done) | (simp; omega) | (simp [*]; done)), ((Kp.refl w).alloc _).trans hkb⟩
  | true =>
    by_cases c3 : ll = 1
    · subst c3
      go_enter Try.func48, Try.ntmps48
      go_wp2_with (first | (go_at_call 57; (with_reducible refine (c_bare9 ⟨10, nm, con, fa, fl, fc, la, 1, lc, ra, rl, rc⟩ _).mono ?_); rintro e w' ⟨rfl, hkb⟩; obtain ⟨z0, z1, z2, z3, z4, z5, zs⟩ := boxed (h := ⟨10, nm, con, fa, fl, fc, la, 1, lc, ra, rl, rc⟩) hkb; simp only at z0 z1 z2 z3 z4 z5; rw [c1]))
      go_ret
      exact ⟨ret_bool (by rw [E0.out, c1]; first | rfl | (simp; done) | (simp; omega) | (simp [*]; done)), ((Kp.refl w).alloc _).trans hkb⟩
    · have d3 : ((ll : Int) == 1) = false := beq_eq_false_iff_ne.2 (by omega)
      go_enter Try.func48, Try.ntmps48
      go_wp2_with (first | (go_at_call 57; (with_reducible refine (c_bare9 ⟨10, nm, con, fa, fl, fc, la, ll, lc, ra, rl, rc⟩ _).mono ?_); rintro e w' ⟨rfl, hkb⟩; obtain ⟨z0, z1, z2, z3, z4, z5, zs⟩ := boxed (h := ⟨10, nm, con, fa, fl, fc, la, ll, lc, ra, rl, rc⟩) hkb; simp only at z0 z1 z2 z3 z4 z5; rw [c1]))
      go_ret
      exact ⟨ret_bool (by rw [E0.out, c1, decide_eq_false c3]; first | rfl | (simp; done) | (simp; omega) | (simp [*]; done)), ((Kp.refl w).alloc _).trans hkb⟩
set_option maxHeartbeats 1600000 in
set_option maxRecDepth 100000 in
theorem shape11 (h : Hd) (fn : List ByteArray) (w : World) (hk : h.k = 11) (rn : h.nm.size ≤ 140737488351232) (rk : -9223372036854775808 ≤ h.k ∧ h.k ≤ 9223372036854775807) (rc' : -9223372036854775808 ≤ h.con ∧ h.con ≤ 9223372036854775807) :
    Calls Try.prog 48 #[h.val] w fun x w' => x = .returned (.bool (fm h fn)) ∧ Kp w w' := by
  obtain ⟨k, nm, con, fa, fl, fc, la, ll, lc, ra, rl, rc⟩ := h
  simp only at hk rn rk rc'
  subst hk
  have hn := Lib.hid rn
  clear rn
  have e0 : fm ⟨11, nm, con, fa, fl, fc, la, ll, lc, ra, rl, rc⟩ fn = (bareB ⟨11, nm, con, fa, fl, fc, la, ll, lc, ra, rl, rc⟩ false false false true true && decide (ll ≤ 16 ∧ rl ≤ 1)) := by simp [fm]
  have E0 := Lib.hid e0; clear e0
  cases c1 : bareB ⟨11, nm, con, fa, fl, fc, la, ll, lc, ra, rl, rc⟩ false false false true true with
  | false =>
    go_enter Try.func48, Try.ntmps48
    go_wp2_with (first | (go_at_call 57; (with_reducible refine (c_bare11 ⟨11, nm, con, fa, fl, fc, la, ll, lc, ra, rl, rc⟩ _).mono ?_); rintro e w' ⟨rfl, hkb⟩; obtain ⟨z0, z1, z2, z3, z4, z5, zs⟩ := boxed (h := ⟨11, nm, con, fa, fl, fc, la, ll, lc, ra, rl, rc⟩) hkb; simp only at z0 z1 z2 z3 z4 z5; rw [c1]))
    go_ret
    exact ⟨ret_bool (by rw [E0.out, c1]; first | rfl | (simp; done) | (simp; omega) | (simp [*]; done)), ((Kp.refl w).alloc _).trans hkb⟩
  | true =>
    by_cases c3 : ll ≤ 16
    · have d3 : decide ((ll : Int) ≤ 16) = true := decide_eq_true (by omega)
      by_cases c4 : rl ≤ 1
      · have d4 : decide ((rl : Int) ≤ 1) = true := decide_eq_true (by omega)
        go_enter Try.func48, Try.ntmps48
        go_wp2_with (first | (go_at_call 57; (with_reducible refine (c_bare11 ⟨11, nm, con, fa, fl, fc, la, ll, lc, ra, rl, rc⟩ _).mono ?_); rintro e w' ⟨rfl, hkb⟩; obtain ⟨z0, z1, z2, z3, z4, z5, zs⟩ := boxed (h := ⟨11, nm, con, fa, fl, fc, la, ll, lc, ra, rl, rc⟩) hkb; simp only at z0 z1 z2 z3 z4 z5; rw [c1]))
        go_ret
        exact ⟨ret_bool (by rw [E0.out, c1, decide_eq_true (show ll ≤ 16 ∧ rl ≤ 1 from ⟨c3, c4⟩)]; first | rfl | (simp; done) | (simp; omega) | (simp [*]; done)), ((Kp.refl w).alloc _).trans hkb⟩
      · have d4 : decide ((rl : Int) ≤ 1) = false := decide_eq_false (by omega)
        go_enter Try.func48, Try.ntmps48
        go_wp2_with (first | (go_at_call 57; (with_reducible refine (c_bare11 ⟨11, nm, con, fa, fl, fc, la, ll, lc, ra, rl, rc⟩ _).mono ?_); rintro e w' ⟨rfl, hkb⟩; obtain ⟨z0, z1, z2, z3, z4, z5, zs⟩ := boxed (h := ⟨11, nm, con, fa, fl, fc, la, ll, lc, ra, rl, rc⟩) hkb; simp only at z0 z1 z2 z3 z4 z5; rw [c1]))
        go_ret
        exact ⟨ret_bool (by rw [E0.out, c1, decide_eq_false (show ¬ (ll ≤ 16 ∧ rl ≤ 1) from by omega)]; first | rfl | (simp; done) | (simp; omega) | (simp [*]; done)), ((Kp.refl w).alloc _).trans hkb⟩
    · have d3 : decide ((ll : Int) ≤ 16) = false := decide_eq_false (by omega)
      go_enter Try.func48, Try.ntmps48
      go_wp2_with (first | (go_at_call 57; (with_reducible refine (c_bare11 ⟨11, nm, con, fa, fl, fc, la, ll, lc, ra, rl, rc⟩ _).mono ?_); rintro e w' ⟨rfl, hkb⟩; obtain ⟨z0, z1, z2, z3, z4, z5, zs⟩ := boxed (h := ⟨11, nm, con, fa, fl, fc, la, ll, lc, ra, rl, rc⟩) hkb; simp only at z0 z1 z2 z3 z4 z5; rw [c1]))
      go_ret
      exact ⟨ret_bool (by rw [E0.out, c1, decide_eq_false (show ¬ (ll ≤ 16 ∧ rl ≤ 1) from by omega)]; first | rfl | (simp; done) | (simp; omega) | (simp [*]; done)), ((Kp.refl w).alloc _).trans hkb⟩
set_option maxHeartbeats 1600000 in
set_option maxRecDepth 100000 in
theorem shape12 (h : Hd) (fn : List ByteArray) (w : World) (hk : h.k = 12) (rn : h.nm.size ≤ 140737488351232) (rk : -9223372036854775808 ≤ h.k ∧ h.k ≤ 9223372036854775807) (rc' : -9223372036854775808 ≤ h.con ∧ h.con ≤ 9223372036854775807) :
    Calls Try.prog 48 #[h.val] w fun x w' => x = .returned (.bool (fm h fn)) ∧ Kp w w' := by
  obtain ⟨k, nm, con, fa, fl, fc, la, ll, lc, ra, rl, rc⟩ := h
  simp only at hk rn rk rc'
  subst hk
  have hn := Lib.hid rn
  clear rn
  have e0 : fm ⟨12, nm, con, fa, fl, fc, la, ll, lc, ra, rl, rc⟩ fn = (bareB ⟨12, nm, con, fa, fl, fc, la, ll, lc, ra, rl, rc⟩ true true false false false && nmB nm && decide (1 ≤ con ∧ con ≤ 3)) := by simp [fm]
  have E0 := Lib.hid e0; clear e0
  cases c1 : bareB ⟨12, nm, con, fa, fl, fc, la, ll, lc, ra, rl, rc⟩ true true false false false with
  | false =>
    go_enter Try.func48, Try.ntmps48
    go_wp2_with (first | (go_at_call 57; (with_reducible refine (c_bare12 ⟨12, nm, con, fa, fl, fc, la, ll, lc, ra, rl, rc⟩ _).mono ?_); rintro e w' ⟨rfl, hkb⟩; obtain ⟨z0, z1, z2, z3, z4, z5, zs⟩ := boxed (h := ⟨12, nm, con, fa, fl, fc, la, ll, lc, ra, rl, rc⟩) hkb; simp only at z0 z1 z2 z3 z4 z5; rw [c1]))
    go_ret
    exact ⟨ret_bool (by rw [E0.out, c1]; first | rfl | (simp; done) | (simp; omega) | (simp [*]; done)), ((Kp.refl w).alloc _).trans hkb⟩
  | true =>
    cases c2 : nmB nm with
    | false =>
      go_enter Try.func48, Try.ntmps48
      go_wp2_with (first | (go_at_call 57; (with_reducible refine (c_bare12 ⟨12, nm, con, fa, fl, fc, la, ll, lc, ra, rl, rc⟩ _).mono ?_); rintro e w' ⟨rfl, hkb⟩; obtain ⟨z0, z1, z2, z3, z4, z5, zs⟩ := boxed (h := ⟨12, nm, con, fa, fl, fc, la, ll, lc, ra, rl, rc⟩) hkb; simp only at z0 z1 z2 z3 z4 z5; rw [c1]) | (go_at_call 56; (with_reducible refine (c_Name _ _ hn.out).mono ?_); rintro e w' ⟨rfl, hkn⟩; obtain ⟨y0, y1, y2, y3, y4, y5, ys⟩ := boxed (h := ⟨12, nm, con, fa, fl, fc, la, ll, lc, ra, rl, rc⟩) (Kp.trans hkb hkn); simp only at y0 y1 y2 y3 y4 y5; rw [c2]))
      go_ret
      exact ⟨ret_bool (by rw [E0.out, c1, c2]; first | rfl | (simp; done) | (simp; omega) | (simp [*]; done)), ((Kp.refl w).alloc _).trans (Kp.trans hkb hkn)⟩
    | true =>
      by_cases c3 : 1 ≤ con
      · have d3 : decide (1 ≤ con) = true := decide_eq_true c3
        by_cases c4 : con ≤ 3
        · have d4 : decide (con ≤ 3) = true := decide_eq_true c4
          go_enter Try.func48, Try.ntmps48
          go_wp2_with (first | (go_at_call 57; (with_reducible refine (c_bare12 ⟨12, nm, con, fa, fl, fc, la, ll, lc, ra, rl, rc⟩ _).mono ?_); rintro e w' ⟨rfl, hkb⟩; obtain ⟨z0, z1, z2, z3, z4, z5, zs⟩ := boxed (h := ⟨12, nm, con, fa, fl, fc, la, ll, lc, ra, rl, rc⟩) hkb; simp only at z0 z1 z2 z3 z4 z5; rw [c1]) | (go_at_call 56; (with_reducible refine (c_Name _ _ hn.out).mono ?_); rintro e w' ⟨rfl, hkn⟩; obtain ⟨y0, y1, y2, y3, y4, y5, ys⟩ := boxed (h := ⟨12, nm, con, fa, fl, fc, la, ll, lc, ra, rl, rc⟩) (Kp.trans hkb hkn); simp only at y0 y1 y2 y3 y4 y5; rw [c2]))
          go_ret
          exact ⟨ret_bool (by rw [E0.out, c1, c2, decide_eq_true (show 1 ≤ con ∧ con ≤ 3 from ⟨c3, c4⟩)]; first | rfl | (simp; done) | (simp; omega) | (simp [*]; done)), ((Kp.refl w).alloc _).trans (Kp.trans hkb hkn)⟩
        · have d4 : decide (con ≤ 3) = false := decide_eq_false c4
          go_enter Try.func48, Try.ntmps48
          go_wp2_with (first | (go_at_call 57; (with_reducible refine (c_bare12 ⟨12, nm, con, fa, fl, fc, la, ll, lc, ra, rl, rc⟩ _).mono ?_); rintro e w' ⟨rfl, hkb⟩; obtain ⟨z0, z1, z2, z3, z4, z5, zs⟩ := boxed (h := ⟨12, nm, con, fa, fl, fc, la, ll, lc, ra, rl, rc⟩) hkb; simp only at z0 z1 z2 z3 z4 z5; rw [c1]) | (go_at_call 56; (with_reducible refine (c_Name _ _ hn.out).mono ?_); rintro e w' ⟨rfl, hkn⟩; obtain ⟨y0, y1, y2, y3, y4, y5, ys⟩ := boxed (h := ⟨12, nm, con, fa, fl, fc, la, ll, lc, ra, rl, rc⟩) (Kp.trans hkb hkn); simp only at y0 y1 y2 y3 y4 y5; rw [c2]))
          go_ret
          exact ⟨ret_bool (by rw [E0.out, c1, c2, decide_eq_false (show ¬ (1 ≤ con ∧ con ≤ 3) from by omega)]; first | rfl | (simp; done) | (simp; omega) | (simp [*]; done)), ((Kp.refl w).alloc _).trans (Kp.trans hkb hkn)⟩
      · have d3 : decide (1 ≤ con) = false := decide_eq_false c3
        go_enter Try.func48, Try.ntmps48
        go_wp2_with (first | (go_at_call 57; (with_reducible refine (c_bare12 ⟨12, nm, con, fa, fl, fc, la, ll, lc, ra, rl, rc⟩ _).mono ?_); rintro e w' ⟨rfl, hkb⟩; obtain ⟨z0, z1, z2, z3, z4, z5, zs⟩ := boxed (h := ⟨12, nm, con, fa, fl, fc, la, ll, lc, ra, rl, rc⟩) hkb; simp only at z0 z1 z2 z3 z4 z5; rw [c1]) | (go_at_call 56; (with_reducible refine (c_Name _ _ hn.out).mono ?_); rintro e w' ⟨rfl, hkn⟩; obtain ⟨y0, y1, y2, y3, y4, y5, ys⟩ := boxed (h := ⟨12, nm, con, fa, fl, fc, la, ll, lc, ra, rl, rc⟩) (Kp.trans hkb hkn); simp only at y0 y1 y2 y3 y4 y5; rw [c2]))
        go_ret
        exact ⟨ret_bool (by rw [E0.out, c1, c2, decide_eq_false (show ¬ (1 ≤ con ∧ con ≤ 3) from by omega)]; first | rfl | (simp; done) | (simp; omega) | (simp [*]; done)), ((Kp.refl w).alloc _).trans (Kp.trans hkb hkn)⟩
set_option maxHeartbeats 1600000 in
set_option maxRecDepth 100000 in
theorem shapek (h : Hd) (fn : List ByteArray) (w : World) (hk : (h.k < 8 ∨ 12 < h.k)) (rn : h.nm.size ≤ 140737488351232) (rk : -9223372036854775808 ≤ h.k ∧ h.k ≤ 9223372036854775807) (rc' : -9223372036854775808 ≤ h.con ∧ h.con ≤ 9223372036854775807) :
    Calls Try.prog 48 #[h.val] w fun x w' => x = .returned (.bool (fm h fn)) ∧ Kp w w' := by
  obtain ⟨k, nm, con, fa, fl, fc, la, ll, lc, ra, rl, rc⟩ := h
  simp only at hk rn rk rc'
  have hn := Lib.hid rn
  clear rn
  have e0 : fm ⟨k, nm, con, fa, fl, fc, la, ll, lc, ra, rl, rc⟩ fn = (decide (1 ≤ k ∧ k ≤ 7) && bareB ⟨k, nm, con, fa, fl, fc, la, ll, lc, ra, rl, rc⟩ false false false false false) := by (have d8 : k ≠ 8 := by omega); (have d9 : ¬ (k = 9 ∨ k = 10) := by omega); (have d11 : k ≠ 11 := by omega); (have d12 : k ≠ 12 := by omega); simp [fm, d8, d9, d11, d12]
  have E0 := Lib.hid e0; clear e0
  have f8 : (k == 8) = false := beq_eq_false_iff_ne.2 (by omega)
  have f9 : (k == 9) = false := beq_eq_false_iff_ne.2 (by omega)
  have f10 : (k == 10) = false := beq_eq_false_iff_ne.2 (by omega)
  have f11 : (k == 11) = false := beq_eq_false_iff_ne.2 (by omega)
  have f12 : (k == 12) = false := beq_eq_false_iff_ne.2 (by omega)
  by_cases c3 : 1 ≤ k
  · have d3 : decide (1 ≤ k) = true := decide_eq_true c3
    by_cases c4 : k ≤ 7
    · have d4 : decide (k ≤ 7) = true := decide_eq_true c4
      cases c1 : bareB ⟨k, nm, con, fa, fl, fc, la, ll, lc, ra, rl, rc⟩ false false false false false with
      | false =>
        go_enter Try.func48, Try.ntmps48
        go_wp2_with (first | (go_at_call 57; (with_reducible refine (c_bare1 ⟨k, nm, con, fa, fl, fc, la, ll, lc, ra, rl, rc⟩ _).mono ?_); rintro e w' ⟨rfl, hkb⟩; obtain ⟨z0, z1, z2, z3, z4, z5, zs⟩ := boxed (h := ⟨k, nm, con, fa, fl, fc, la, ll, lc, ra, rl, rc⟩) hkb; simp only at z0 z1 z2 z3 z4 z5; rw [c1]))
        go_ret
        exact ⟨ret_bool (by rw [E0.out, c1]; first | rfl | (simp; done) | (simp; omega) | (simp [*]; done)), ((Kp.refl w).alloc _).trans hkb⟩
      | true =>
        go_enter Try.func48, Try.ntmps48
        go_wp2_with (first | (go_at_call 57; (with_reducible refine (c_bare1 ⟨k, nm, con, fa, fl, fc, la, ll, lc, ra, rl, rc⟩ _).mono ?_); rintro e w' ⟨rfl, hkb⟩; obtain ⟨z0, z1, z2, z3, z4, z5, zs⟩ := boxed (h := ⟨k, nm, con, fa, fl, fc, la, ll, lc, ra, rl, rc⟩) hkb; simp only at z0 z1 z2 z3 z4 z5; rw [c1]))
        go_ret
        exact ⟨ret_bool (by rw [E0.out, c1, decide_eq_true (show 1 ≤ k ∧ k ≤ 7 from ⟨c3, c4⟩)]; first | rfl | (simp; done) | (simp; omega) | (simp [*]; done)), ((Kp.refl w).alloc _).trans hkb⟩
    · have d4 : decide (k ≤ 7) = false := decide_eq_false c4
      go_enter Try.func48, Try.ntmps48
      go_wp2_with (first | fail)
      go_ret
      exact ⟨ret_bool (by rw [E0.out, decide_eq_false (show ¬ (1 ≤ k ∧ k ≤ 7) from by omega)]; first | rfl | (simp; done) | (simp; omega) | (simp [*]; done)), ((Kp.refl w).alloc _)⟩
  · have d3 : decide (1 ≤ k) = false := decide_eq_false c3
    go_enter Try.func48, Try.ntmps48
    go_wp2_with (first | fail)
    go_ret
    exact ⟨ret_bool (by rw [E0.out, decide_eq_false (show ¬ (1 ≤ k ∧ k ≤ 7) from by omega)]; first | rfl | (simp; done) | (simp; omega) | (simp [*]; done)), ((Kp.refl w).alloc _)⟩
theorem c_shape (T : Ty) (h : Hd) (K : Nat → Hd) (w : World) (t : Top w A0 T h K) :
    Calls Try.prog 48 #[h.val] w fun x w' => x = .returned (.bool (fm h T.fn)) ∧ Kp w w' := by
  by_cases h8 : h.k = 8
  · by_cases h0 : h.fl = 0
    · exact shape8a T h K w t h8 h0
    · exact shape8b T h K w t h8 (by omega)
  · by_cases h9 : h.k = 9
    · exact shape9 h T.fn w h9 t.rn t.rk t.rc
    · by_cases h10 : h.k = 10
      · exact shape10 h T.fn w h10 t.rn t.rk t.rc
      · by_cases h11 : h.k = 11
        · exact shape11 h T.fn w h11 t.rn t.rk t.rc
        · by_cases h12 : h.k = 12
          · exact shape12 h T.fn w h12 t.rn t.rk t.rc
          · exact shapek h T.fn w (by omega) t.rn t.rk t.rc
end Go.Proofs.Ytfjflfokmihcpaa
