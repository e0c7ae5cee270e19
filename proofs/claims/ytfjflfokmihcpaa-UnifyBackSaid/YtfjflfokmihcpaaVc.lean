/- The walk of UnifyBack. Condition: the type, the names and the types put in lie in memory. -/
import Derived.Test.YtfjflfokmihcpaaVa
import Derived.Test.YtfjflfokmihcpaaUl
import Derived.Test.YtfjflfokmihcpaaRd
import Derived.Deep.RegionHeld3
namespace Go.Proofs.Ytfjflfokmihcpaa
open Go.RowKit
set_option linter.unusedVariables false
set_option linter.unusedSimpArgs false
theorem ownB_new {w : World} : (w.alloc (.cells #[] 9)).ownsRow w.heap.size 9 1 (.slice (some ⟨w.heap.size, 0, none⟩) 0 0) 0 [] := World.ownsRow_made w #[] 0 (Nat.le_refl _) (by unfold maxLen; omega) (by rfl)
theorem own_at {w : World} {g base : Nat} (hg : g = w.heap.size) (hb : base ≤ g) : (w.alloc (.cells #[] 9)).ownsRow base 9 1 (.slice (some ⟨g, 0, none⟩) 0 0) 0 [] := by
  subst hg
  exact World.ownsRow_made w #[] 0 hb (by unfold maxLen; omega) (by rfl)
theorem back_facts {T : Ty} {L : List ByteArray} {As : List Ty} (h : subE T L As = 0) : (look 9 T).2.2 = true ∧ allS As = true ∧ As.length = L.length ∧ L.Nodup ∧ (look 9 (fill (stand L As) 9 T)).2.2 = true := by
  cases hT : (look 9 T).2.2 with
  | false => rw [sub_form hT] at h; cases h
  | true =>
    cases hA : allOk As with
    | false => unfold subE at h; rw [hT, hA] at h; cases h
    | true =>
      by_cases hn : As.length = L.length ∧ L.Nodup
      · have he := sub_end hT hA hn
        rw [h] at he
        cases hg : (lookG (standG L As) 9 T).2.2 with
        | false => rw [hg] at he; cases he
        | true => exact ⟨rfl, hA, hn.1, hn.2, by rw [← (fill_look (stand_sized hn.1 hA) 9 9 T (Nat.le_refl _) (Nat.le_refl _)).1]; exact hg⟩
      · rw [sub_arg hT hA hn] at h; cases h
theorem idx_at_nd {L : List ByteArray} (hn : L.Nodup) {n : Nat} {s : ByteArray} (hs : L[n]? = some s) : idx L s = some n := by
  obtain ⟨j, h1, h2⟩ := idx_mem (List.mem_of_getElem? hs)
  have h3 := idx_getD h1
  rw [h1, (List.getElem?_inj h2 hn).1 (h3.trans hs.symm)]
/-- What Unify finds of a type with others put in. -/
theorem back_found {T : Ty} {L : List ByteArray} {As : List Ty} (h : subE T L As = 0) : ∃ σ, found L [T] [fill (stand L As) 9 T] = some σ ∧ uE L [T] [fill (stand L As) 9 T] = 0 ∧ Fine L σ ∧ Ext σ (stand L As) ∧ ∀ s, s ∈ L → ((σ s).isSome = true ↔ occ s 9 T) := by
  obtain ⟨h1, h2, h3, h4, h5⟩ := back_facts h
  obtain ⟨σ, k1, k2, k3⟩ := mtch_back (L := L) (τ := stand L As) (fun s hs => by
    obtain ⟨j, e1, e2⟩ := idx_mem hs
    exact ⟨As[j], by unfold stand; rw [e1]; exact List.getElem?_eq_getElem (by omega)⟩) (fun s hs => by unfold stand; rw [idx_none hs]; rfl) (σ := σ0) h1 (fun s X e => by cases e)
  have hf : found L [T] [fill (stand L As) 9 T] = some σ := by
    unfold found
    rw [walkK, k1]
    rfl
  have hy : (allS [T] && allS [fill (stand L As) 9 T]) = true := by simp [allS, h1, h5]
  refine ⟨σ, hf, uE_ok hy ⟨h4, rfl⟩ hf, found_fine (Bool.and_eq_true_iff.1 hy).1 (Bool.and_eq_true_iff.1 hy).2 hf, k2, fun s hs => ?_⟩
  rw [k3 s hs]
  exact ⟨fun q => q.elim (fun q => by cases q) id, .inr⟩
set_option maxHeartbeats 6400000 in
set_option maxRecDepth 100000 in
theorem back_no (R : Nat) (T : Ty) (h : Hd) (L : List ByteArray) (na : Option Addr) (nc : Nat) (Ra : Nat) (As : List Ty) (aa : Option Addr) (ac : Nat) (K : Nat → Hd) (w : World) (hl : Lies w A0 R T h)
    (ht : tab w A0 9 na L.length nc 1 (fun i => [.string (L.getD i ByteArray.empty)])) (hlc : L.length ≤ nc) (hL : ∀ s, s ∈ L → s.size ≤ 140737488351232) (hlL : L.length * 16 ≤ 140737488351232)
    (hA : LiesAll w A0 Ra As aa ac K) (hlA : As.length * 104 ≤ 140737488351232) (h0 : subE T L As ≠ 0) :
    Calls Try.prog 6 #[h.val, .slice na L.length nc, .slice aa As.length ac] w fun e w' => e = .returned (.bool true) ∧ Kp w w' := by
  obtain ⟨q, hq⟩ : ∃ q, subE T L As = q := ⟨_, rfl⟩
  obtain ⟨i2, hs, hx0, hx1, hx2⟩ := info_parts infoS
  have HT := Lib.hid ht
  have KW0 := Lib.hid (show Kp w (w.alloc (.cells #[.int .i64 h.k, .string h.nm, .int .i64 h.con, .slice h.fa h.fl h.fc, .slice h.la h.ll h.lc, .slice h.ra h.rl h.rc] 42)) from (Kp.refl w).alloc _)
  have CF := Lib.hid (fun W (k : Kp (w.alloc (.cells #[.int .i64 h.k, .string h.nm, .int .i64 h.con, .slice h.fa h.fl h.fc, .slice h.la h.ll h.lc, .slice h.ra h.rl h.rc] 42)) W) => c_Fill0 R T h W (hl.keep (KW0.out.trans k)))
  have CA : Hid (∀ W, Kp w W → Calls Try.prog 10 #[.slice aa As.length ac] W fun e w' => ∃ ad c K, e = .returned (.slice ad As.length c) ∧ LiesAll w' A0 Ra As ad c K ∧ Kp W w') := Lib.hid (fun W k => (c_owns Ra As aa ac K W (hA.keep k) hlA).mono (fun e w' ⟨ad, c, K, e1, e2, e3⟩ => ⟨ad, c, K, e1, LiesAll.weak e2 (A0_le _), e3⟩))
  have CS : Hid (∀ (h1 : Hd) (na : Option Addr) (nc : Nat) (S' S : Sel) (aa : Option Addr) (ac : Nat) (K : Nat → Hd) (W : World), Lies W S R T h1 → tab W S' 9 na L.length nc 1 (fun i => [.string (L.getD i ByteArray.empty)]) → LiesAll W A0 Ra As aa ac K → Calls Try.prog 17 #[h1.val, .slice na L.length nc, .slice aa As.length ac] W fun e w' => ∃ h' : Hd, e = .returned (.tuple #[h'.val, .int .i64 q]) ∧ Kp W w' ∧ True) := Lib.hid (fun h1 na nc S' S aa ac K W a b c => (c_Subst R Ra T h1 L na nc _ As aa ac K W a.any b hL hlL c hlA).mono (fun e w' ⟨h', e1, e2, e3, e4⟩ => ⟨h', by rw [e1, hq], e2, trivial⟩))
  rw [hq] at h0
  have hqb : (q != 0) = true := bne_iff_ne.2 h0
  clear hq h0 hl ht hL hA
  go_enter Try.func6, Try.ntmps6
  go_wp2_with (first
    | (go_at_call 18; (with_reducible refine (CF.out _ (Kp.refl _)).mono ?_); rintro e w1 ⟨h1, rfl, hl, hk⟩; have HL1 := Lib.hid hl; have K1 := Lib.hid (KW0.out.trans hk); have J01 := Lib.hid hk; clear hl hk)
    | ((with_reducible show wpList _ _ _ (⟨some 21, _, _, _, _, _⟩ :: _) _ _); refine wpList_append_tab (d := 21) _ _ 22 rfl w1.heap.size 9 i2 _ 1 16 Try.underlying22 hs hx0 hx1 hx2 rfl (by decide) _ 0 _ (by rfl) (ownB_new (w := w1)) w _ _ _ _ _ (by rfl) HT.out (K1.out.alloc _) (fun _ => rfl) (fun _ u hu => by (rw [List.mem_singleton] at hu; subst hu; rfl)) (by unfold maxLen; omega) (by omega) (by simp) ?_; intro v1 w2 ho1 hg1; rw [Nat.zero_add, List.nil_append] at ho1; obtain ⟨na1, nc1, hv1, _, ht1, _⟩ := tab_of_owns ho1 (fun _ => rfl); subst hv1; have HT1 := Lib.hid ht1; have J12 := Lib.hid (show Kp w1 w2 from ((Kp.refl _).alloc _).grown hg1 (fun k hk => by cases hk; exact Nat.le_refl _)); clear ht1 ho1 hg1)
    | (go_at_call 10; (with_reducible refine (CA.out w2 (K1.out.trans J12.out)).mono ?_); rintro e w3 ⟨aa1, ac1, KA1, rfl, hl, hk⟩; have HA1 := Lib.hid hl; have J23 := Lib.hid hk; clear hl hk)
    | (go_at_call 17; (with_reducible refine (CS.out h1 na1 nc1 _ _ aa1 ac1 KA1 w3 (HL1.out.keep (J12.out.trans J23.out)) (HT1.out.keep J23.out) HA1.out).mono ?_); rintro e w4 ⟨h2, rfl, hk, hx⟩; have J34 := Lib.hid hk; have HX4 := Lib.hid hx; have K4 := Lib.hid (K1.out.trans (J12.out.trans (J23.out.trans hk))); have J04 := Lib.hid (J01.out.trans (J12.out.trans (J23.out.trans hk))); clear hk hx)
    | (go_at_call 12; (with_reducible refine (c_answers _).mono ?_); rintro e w5 ⟨rfl, hk⟩; have K5 := Lib.hid ((K4.out.alloc _).trans hk); clear hk) | (go_at_call 12; (with_reducible refine (c_answers w5).mono ?_); rintro e w6 ⟨rfl, hk⟩; have K6 := Lib.hid (K5.out.trans hk); clear hk))
  go_ret
  exact ⟨rfl, by first | exact K6.out | exact K5.out⟩
end Go.Proofs.Ytfjflfokmihcpaa
