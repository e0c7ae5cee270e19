/- The walk of TypesFill. Condition: the types and the names lie in memory. -/
import Derived.Test.YtcaffohojaobaaaFi
import Derived.Test.YtcaffohojaobaaaFj
import Derived.Test.YtcaffohojaobaaaTw0
import Derived.Test.YtcaffohojaobaaaJ
import Derived.Test.YtcaffohojaobaaaN
namespace Go.Proofs.Ytcaffohojaobaaa
open Go.RowKit
set_option linter.unusedVariables false
set_option linter.unusedSimpArgs false
theorem all_next {As : List Ty} {n : Nat} {X : Ty} (hX : As[n]? = some X) : allOk (As.take (n + 1)) = (allOk (As.take n) && (look 9 X).2.2) := by
  unfold allOk
  rw [List.take_add_one, hX]
  simp
theorem good_next {As : List Ty} {n : Nat} {X : Ty} {g : Bool} (hX : As[n]? = some X) : (g && allOk (As.take (n + 1))) = ((g && allOk (As.take n)) && (look 9 X).2.2) := by rw [all_next hX, Bool.and_assoc]
theorem same_zero (w : World) : Calls Try.prog 28 #[.agg #[.int .i64 0, .string ⟨#[]⟩, .int .i64 0, .slice none 0 0, .slice none 0 0, .slice none 0 0], .agg #[.int .i64 0, .string ⟨#[]⟩, .int .i64 0, .slice none 0 0, .slice none 0 0, .slice none 0 0]] w fun e w' => e = .returned (.bool true) ∧ Kp w w' := by
  obtain ⟨K, t, _⟩ := hd0_lies w A0 0
  have h := refSame_00 tz tz hd0 hd0 K K w t t (by decide) (by decide) (topB_yes ⟨rfl, rfl, rfl, rfl, rfl, rfl⟩) rfl rfl rfl rfl rfl rfl rfl rfl
  rw [eqB_yes rfl] at h
  exact h
set_option maxHeartbeats 12800000 in
set_option maxRecDepth 100000 in
theorem fill_law (R : Nat) (hR : 9 ≤ R) (Ra : Nat) (T : Ty) (h : Hd) (L : List ByteArray) (ad : Option Addr) (c : Nat) (As : List Ty) (ad2 : Option Addr) (c2 : Nat) (K : Nat → Hd) (w : World) (hl : Lies w A0 R T h)
    (ht : tab w A0 9 ad L.length c 1 (fun i => [.string (L.getD i ByteArray.empty)])) (hlc : L.length ≤ c) (hL : ∀ s, s ∈ L → s.size ≤ 140737488351232) (hlL : L.length * 16 ≤ 140737488351232)
    (ha : LiesAll w A0 Ra As ad2 c2 K) (hlA : As.length * 104 ≤ 140737488351232) :
    Calls Try.prog 6 #[h.val, .slice ad L.length c, .slice ad2 As.length c2] w fun e w' => e = .returned (.bool true) ∧ Kp w w' := by
  have HL := Lib.hid hl
  have HT := Lib.hid ht
  have HS := Lib.hid hL
  have HLL := Lib.hid hlL
  have HLC := Lib.hid hlc
  have HA := Lib.hid ha
  have HLA := Lib.hid hlA
  have HR := Lib.hid hR
  have KA := Lib.hid (show Kp w (w.alloc (.cells #[.int .i64 h.k, .string h.nm, .int .i64 h.con, .slice h.fa h.fl h.fc, .slice h.la h.ll h.lc, .slice h.ra h.rl h.rc] 25)) from (Kp.refl w).alloc _)
  have RH := Lib.hid (fun W (hk : Kp (w.alloc (.cells #[.int .i64 h.k, .string h.nm, .int .i64 h.con, .slice h.fa h.fl h.fc, .slice h.la h.ll h.lc, .slice h.ra h.rl h.rc] 25)) W) => (hk.blk (b := w.heap.size) (by simp)).trans (heap_alloc_new _ _))
  clear hl ht hL hlL hlc ha hlA hR
  go_enter Try.func6, Try.ntmps6
  go_wp2_with (first | (go_at_call 13; (with_reducible refine (c_own R T h _ (HL.out.keep KA.out)).mono ?_); rintro e w1 ⟨h1, rfl, hli, hk1⟩; have KB1 := Lib.hid hk1; have LI1 := Lib.hid (hli.weak (A0_le _)); clear hli hk1) | (go_at_call 30; (with_reducible refine (c_texts L ad c A0 _ (HT.out.keep (KA.out.trans KB1.out)) HLL.out).mono ?_); rintro e w2 ⟨ad', c', rfl, ht2, hk2⟩; have KB2 := Lib.hid (KB1.out.trans hk2); have HT2 := Lib.hid ht2; have LI2 := Lib.hid (LI1.out.keep hk2); clear ht2 hk2) | (go_at_call 31; (with_reducible refine (c_owns Ra As ad2 c2 K _ (HA.out.keep (KA.out.trans KB2.out)) HLA.out).mono ?_); rintro e w3 ⟨ad2', c2', K', rfl, ha3, hk3⟩; have KB3 := Lib.hid (KB2.out.trans hk3); have HA3 : Hid (LiesAll w3 A0 Ra As ad2' c2' K') := Lib.hid ⟨ha3.1.weak (A0_le _), fun i X hX => (ha3.2 i X hX).weak (A0_le _)⟩; have HT3 := Lib.hid (HT2.out.keep hk3); have LI3 := Lib.hid (LI2.out.keep hk3); clear ha3 hk3) | (go_at_call 29; (with_reducible refine (c_Subst R Ra T h1 L ad' c' (From w1.heap.size) As ad2' c2' K' _ LI3.out HT3.out HS.out HLL.out HA3.out HLA.out).mono ?_); rintro e w4 ⟨⟨xk, xnm, xcon, xfa, xfl, xfc, xla, xll, xlc, xra, xrl, xrc⟩, rfl, hk4, hx0, hx1⟩; have KB4 := Lib.hid (KB3.out.trans hk4); have HX0 := Lib.hid hx0; have HX1 := Lib.hid hx1; clear hx0 hx1 hk4; obtain ⟨q, hq⟩ : ∃ q, subE T L As = q := ⟨_, rfl⟩; have HQ := Lib.hid hq; rw [hq]; clear hq) | ((with_reducible show wpList _ _ _ (⟨none, .store _ (.tmp 7) (.tmp 20), _, _, _, _⟩ :: _) _ _); refine wpList_store_rowK (by rfl) 25 _ _ (by rfl) (w4.heap.size) #[.int .i64 xk, .string xnm, .int .i64 xcon, .slice xfa xfl xfc, .slice xla xll xlc, .slice xra xrl xrc] (by rfl) (by rfl) 25 _ (heap_alloc_new _ _) (by exact sizeT) (by rfl) (by simp [Value.oneCell']) ?_; intro w5 hb5 hke; have K45 := Lib.hid (hke.old ((Kp.refl w4).alloc _) (Nat.le_refl _)); have KB5 := Lib.hid (KB4.out.trans K45.out); have HB5 := Lib.hid hb5; clear hke hb5) | (go_at_call 18; (with_reducible refine (c_answers _).mono ?_); rintro e w6 ⟨rfl, hk6⟩; have K56 := Lib.hid hk6; have KB6 := Lib.hid (KB5.out.trans hk6); obtain ⟨z0, z1, z2, z3, z4, z5, zs⟩ := row6 (RH.out _ KB6.out); clear hk6) | (go_at_call 23; (with_reducible refine (c_Sound R T h _ (HL.out.keep (KA.out.trans KB6.out))).mono ?_); rintro e w7 ⟨rfl, hk7⟩; have K57 := Lib.hid (K56.out.trans hk7); have KB7 := Lib.hid (KB6.out.trans hk7); clear hk7 z0 z1 z2 z3 z4 z5 zs))
  go_loopw [9, 10] (fun g i wr => ∃ n : Nat, n ≤ As.length ∧ i = .int .i64 n ∧ g = .bool ((look 9 T).2.2 && allOk (As.take n)) ∧ Kp w7 wr) (fun _ i _ => As.length - (intOf i).toNat)
  case atStart => exact ⟨0, Nat.zero_le _, rfl, by simp [allOk], Kp.refl _⟩
  case round =>
    obtain ⟨n, hn, rfl, rfl, hk⟩ := hrel
    have HK := Lib.hid hk
    clear hk
    by_cases hlt : n < As.length
    · obtain ⟨X, hX⟩ : ∃ X, As[n]? = some X := ⟨_, List.getElem?_eq_getElem hlt⟩
      obtain ⟨b, o, ha2, hr⟩ := HA.out.1.at (by omega)
      subst ha2
      have hgn := good_next (g := (look 9 T).2.2) hX
      have HLK := Lib.hid (HA.out.2 n X hX)
      have HGN := Lib.hid hgn
      have hb0 := HLA.out
      have hb1 : (n : Int) < 9000000000000 := by omega
      clear hX hgn hb0
      obtain ⟨g, hg⟩ : ∃ g, ((look 9 T).2.2 && allOk (As.take n)) = g := ⟨_, rfl⟩
      rw [hg]
      have HG := Lib.hid hg
      clear hg
      cases g with
      | true =>
        have hrn := (KA.out.trans (KB7.out.trans HK.out)).range (hr n hlt)
        have y0 := hrn 0 (.int .i64 (K n).k) rfl
        have y1 := hrn 1 (.string (K n).nm) rfl
        have y2 := hrn 2 (.int .i64 (K n).con) rfl
        have y3 := hrn 3 (.slice (K n).fa (K n).fl (K n).fc) rfl
        have y4 := hrn 4 (.slice (K n).la (K n).ll (K n).lc) rfl
        have y5 := hrn 5 (.slice (K n).ra (K n).rl (K n).rc) rfl
        rw [Nat.add_zero] at y0
        have hi1 : ∀ W, (Instr.indexAt 23 (.slice (some ⟨b, o, none⟩) As.length c2) (.int .i64 (n : Nat))).run Try.prog W = .ok (.pointer (some ⟨b, o + n * 6, none⟩)) W := fun W => run_index_tabF (w := W) (b := b) (o := o) (c := c2) Try.underlying23 (m := 6) (by kernel_rfl) hlt
        clear hrn hr
        go_wp2_with (first | (go_at_call 23; (with_reducible refine (c_Sound Ra X (K n) _ (HLK.out.keep (KA.out.trans (KB7.out.trans HK.out)))).mono ?_); rintro e w8 ⟨rfl, hk8⟩))
        go_roundw
        case rel => exact ⟨n + 1, by omega, by go_num, by rw [HGN.out, HG.out]; rfl, HK.out.trans hk8⟩
        case measure => simp [intOf]; omega
      | false =>
        clear hr
        go_wp2_with fail
        go_roundw
        case rel => exact ⟨n + 1, by omega, by go_num, by rw [HGN.out, HG.out]; rfl, HK.out⟩
        case measure => simp [intOf]; omega
    · obtain rfl : n = As.length := by omega
      have KR := Lib.hid (K57.out.trans HK.out)
      have KBR := Lib.hid (KB7.out.trans HK.out)
      obtain ⟨y0, y1, y2, y3, y4, y5, ys⟩ := row6 ((KR.out.blk (Array.getElem?_eq_some_iff.1 HB5.out).1).trans HB5.out)
      obtain ⟨z0, z1, z2, z3, z4, z5, zs⟩ := row6 (RH.out _ KBR.out)
      rw [List.take_length]
      have hle := HLL.out
      have hb0 := HLA.out
      cases hT : (look 9 T).2.2 with
      | false =>
        have hqv : q = 1 := by rw [← HQ.out]; exact sub_form hT
        subst hqv
        have ex := HX1.out (by rw [HQ.out]; decide)
        simp only [hd0, Hd.mk.injEq] at ex
        obtain ⟨rfl, rfl, rfl, rfl, rfl, rfl, rfl, rfl, rfl, rfl, rfl, rfl⟩ := ex
        rw [Bool.false_and]
        clear hle hb0
        go_wp2_with (go_at_call 28; (with_reducible refine (same_zero _).mono ?_); rintro e w9 ⟨rfl, hk9⟩; have KB9 := Lib.hid (KBR.out.trans hk9); obtain ⟨z0, z1, z2, z3, z4, z5, zs⟩ := row6 (RH.out _ KB9.out); clear hk9 y0 y1 y2 y3 y4 y5 ys)
        go_ret
        exact ⟨rfl, KA.out.trans KB9.out⟩
      | true =>
        cases hA : allOk As with
        | false =>
          have hqv : q = 1 := by rw [← HQ.out]; unfold subE; rw [hT, hA]; rfl
          subst hqv
          have ex := HX1.out (by rw [HQ.out]; decide)
          simp only [hd0, Hd.mk.injEq] at ex
          obtain ⟨rfl, rfl, rfl, rfl, rfl, rfl, rfl, rfl, rfl, rfl, rfl, rfl⟩ := ex
          rw [Bool.true_and]
          clear hle hb0
          go_wp2_with (go_at_call 28; (with_reducible refine (same_zero _).mono ?_); rintro e w9 ⟨rfl, hk9⟩; have KB9 := Lib.hid (KBR.out.trans hk9); obtain ⟨z0, z1, z2, z3, z4, z5, zs⟩ := row6 (RH.out _ KB9.out); clear hk9 y0 y1 y2 y3 y4 y5 ys)
          go_ret
          exact ⟨rfl, KA.out.trans KB9.out⟩
        | true =>
          rw [Bool.true_and]
          by_cases hlen : As.length = L.length
          · have hne : ((L.length : Int) != (As.length : Int)) = false := by simp; omega
            by_cases hnd : L.Nodup
            · have he := sub_end hT hA ⟨hlen, hnd⟩
              have hlk := (fill_look (stand_sized hlen hA) 9 R T HR.out (Nat.le_refl 9)).1
              have TW := Lib.hid (twiceB_no hnd)
              have HLE := Lib.hid (show L.length ≤ As.length by omega)
              cases hg : (lookG (standG L As) 9 T).2.2 with
              | false =>
                rw [hg] at he hlk
                have LK := Lib.hid hlk.symm
                have hqv : q = 6 := by rw [← HQ.out]; exact he
                subst hqv
                have ex := HX1.out (by rw [HQ.out]; decide)
                simp only [hd0, Hd.mk.injEq] at ex
                obtain ⟨rfl, rfl, rfl, rfl, rfl, rfl, rfl, rfl, rfl, rfl, rfl, rfl⟩ := ex
                clear hle hb0 hlen hnd he hlk hg hT hA
                go_wp2_with (first | (go_at_call 28; (with_reducible refine (same_zero _).mono ?_); rintro e w9 ⟨rfl, hk9⟩; have KB9 := Lib.hid (KBR.out.trans hk9); obtain ⟨z0, z1, z2, z3, z4, z5, zs⟩ := row6 (RH.out _ KB9.out); clear hk9 y0 y1 y2 y3 y4 y5 ys) | (go_at_call 32; (with_reducible refine (c_Twice L ad c A0 _ (HT.out.keep (KA.out.trans KB9.out)) HLL.out HLC.out (fun h => h)).mono ?_); rintro e w10 ⟨rfl, hk10⟩; rw [TW.out]; have KB10 := Lib.hid (KB9.out.trans hk10); obtain ⟨z0, z1, z2, z3, z4, z5, zs⟩ := row6 (RH.out _ KB10.out); have hk10' := Lib.hid hk10; clear hk10) | (go_at_call 33; (with_reducible refine (c_Fill w L ad c A0 As ad2 c2 K Ra HLE.out HT.out HLL.out HA.out R T h _ (KA.out.trans KB10.out) (HL.out.keep (KA.out.trans KB10.out))).mono ?_); rintro e w11 ⟨⟨fk, fnm, fcon, ffa, ffl, ffc, fla, fll, flc, fra, frl, frc⟩, rfl, hf, hk11⟩; have KB11 := Lib.hid (KB10.out.trans hk11); have HF := Lib.hid hf; have HK11 := Lib.hid hk11; clear hf hk11 z0 z1 z2 z3 z4 z5 zs) | ((with_reducible show wpList _ _ _ (⟨none, .store _ (.tmp 11) (.tmp 66), _, _, _, _⟩ :: _) _ _); refine wpList_store_rowK (by rfl) 25 _ _ (by rfl) (w11.heap.size) #[.int .i64 fk, .string fnm, .int .i64 fcon, .slice ffa ffl ffc, .slice fla fll flc, .slice fra frl frc] (by rfl) (by rfl) 25 _ (heap_alloc_new _ _) (by exact sizeT) (by rfl) (by simp [Value.oneCell']) ?_; intro w12 hb12 hke; have K12 := Lib.hid (hke.old ((Kp.refl w11).alloc _) (Nat.le_refl _)); have KB12 := Lib.hid (KB11.out.trans K12.out); obtain ⟨f0, f1, f2, f3, f4, f5, fs⟩ := row6 hb12; have HB12 := Lib.hid hb12; clear hke hb12) | (go_at_call 23; (with_reducible refine (c_Sound (R + Ra) (fill (stand L As) R T) ⟨fk, fnm, fcon, ffa, ffl, ffc, fla, fll, flc, fra, frl, frc⟩ _ ((HF.out.weak (A0_le _)).keep K12.out)).mono ?_); rintro e w13 ⟨rfl, hk13⟩; rw [LK.out]; have KB13 := Lib.hid (KB12.out.trans hk13); clear f0 f1 f2 f3 f4 f5 fs))
                go_ret
                exact ⟨rfl, KA.out.trans KB13.out⟩
              | true =>
                rw [hg] at he hlk
                have LK := Lib.hid hlk.symm
                have hqv : q = 0 := by rw [← HQ.out]; exact he
                subst hqv
                clear hle hb0 hlen hnd he hlk hg hT hA y0 y1 y2 y3 y4 y5 ys
                go_wp2_with (first | (go_at_call 32; (with_reducible refine (c_Twice L ad c A0 _ (HT.out.keep (KA.out.trans KBR.out)) HLL.out HLC.out (fun h => h)).mono ?_); rintro e w10 ⟨rfl, hk10⟩; rw [TW.out]; have KB10 := Lib.hid (KBR.out.trans hk10); obtain ⟨z0, z1, z2, z3, z4, z5, zs⟩ := row6 (RH.out _ KB10.out); have hk10' := Lib.hid hk10; clear hk10) | (go_at_call 33; (with_reducible refine (c_Fill w L ad c A0 As ad2 c2 K Ra HLE.out HT.out HLL.out HA.out R T h _ (KA.out.trans KB10.out) (HL.out.keep (KA.out.trans KB10.out))).mono ?_); rintro e w11 ⟨⟨fk, fnm, fcon, ffa, ffl, ffc, fla, fll, flc, fra, frl, frc⟩, rfl, hf, hk11⟩; have KB11 := Lib.hid (KB10.out.trans hk11); have HF := Lib.hid hf; have HK11 := Lib.hid hk11; clear hf hk11 z0 z1 z2 z3 z4 z5 zs) | ((with_reducible show wpList _ _ _ (⟨none, .store _ (.tmp 11) (.tmp 66), _, _, _, _⟩ :: _) _ _); refine wpList_store_rowK (by rfl) 25 _ _ (by rfl) (w11.heap.size) #[.int .i64 fk, .string fnm, .int .i64 fcon, .slice ffa ffl ffc, .slice fla fll flc, .slice fra frl frc] (by rfl) (by rfl) 25 _ (heap_alloc_new _ _) (by exact sizeT) (by rfl) (by simp [Value.oneCell']) ?_; intro w12 hb12 hke; have K12 := Lib.hid (hke.old ((Kp.refl w11).alloc _) (Nat.le_refl _)); have KB12 := Lib.hid (KB11.out.trans K12.out); obtain ⟨f0, f1, f2, f3, f4, f5, fs⟩ := row6 hb12; have HB12 := Lib.hid hb12; clear hke hb12) | (go_at_call 23; (with_reducible refine (c_Sound (R + Ra) (fill (stand L As) R T) ⟨fk, fnm, fcon, ffa, ffl, ffc, fla, fll, flc, fra, frl, frc⟩ _ ((HF.out.weak (A0_le _)).keep K12.out)).mono ?_); rintro e w13 ⟨rfl, hk13⟩; rw [LK.out]; have KB13 := Lib.hid (KB12.out.trans hk13); clear f0 f1 f2 f3 f4 f5 fs; obtain ⟨f0, f1, f2, f3, f4, f5, fs⟩ := row6 ((hk13.blk (Array.getElem?_eq_some_iff.1 HB12.out).1).trans HB12.out); have K513 := Lib.hid (KR.out.trans (hk10'.out.trans (HK11.out.trans (K12.out.trans hk13)))); obtain ⟨y0, y1, y2, y3, y4, y5, ys⟩ := row6 ((K513.out.blk (Array.getElem?_eq_some_iff.1 HB5.out).1).trans HB5.out); have HFW := Lib.hid ((HF.out.weak (A0_le _)).keep (K12.out.trans hk13)); have HXW := Lib.hid (((HX0.out HQ.out).weak (A0_le _)).keep (K45.out.trans K513.out)); clear hk13) | (go_at_call 28; (with_reducible refine (c_refSame 9 (R + Ra) (R + Ra) (fill (stand L As) R T) (fill (stand L As) R T) ⟨xk, xnm, xcon, xfa, xfl, xfc, xla, xll, xlc, xra, xrl, xrc⟩ ⟨fk, fnm, fcon, ffa, ffl, ffc, fla, fll, flc, fra, frl, frc⟩ _ HXW.out HFW.out LK.out LK.out).mono ?_); rintro e w14 ⟨rfl, hk14⟩; rw [eqB_yes rfl]; have KB14 := Lib.hid (KB13.out.trans hk14); clear hk14))
                go_ret
                exact ⟨rfl, KA.out.trans KB14.out⟩
            · have TW := Lib.hid (twiceB_yes hnd)
              have hqv : q = 2 := by rw [← HQ.out]; exact sub_arg hT hA (fun x => hnd x.2)
              subst hqv
              have ex := HX1.out (by rw [HQ.out]; decide)
              simp only [hd0, Hd.mk.injEq] at ex
              obtain ⟨rfl, rfl, rfl, rfl, rfl, rfl, rfl, rfl, rfl, rfl, rfl, rfl⟩ := ex
              clear hle hb0 hlen hnd hT hA
              go_wp2_with (first | (go_at_call 28; (with_reducible refine (same_zero _).mono ?_); rintro e w9 ⟨rfl, hk9⟩; have KB9 := Lib.hid (KBR.out.trans hk9); obtain ⟨z0, z1, z2, z3, z4, z5, zs⟩ := row6 (RH.out _ KB9.out); clear hk9 y0 y1 y2 y3 y4 y5 ys) | (go_at_call 32; (with_reducible refine (c_Twice L ad c A0 _ (HT.out.keep (KA.out.trans KB9.out)) HLL.out HLC.out (fun h => h)).mono ?_); rintro e w10 ⟨rfl, hk10⟩; rw [TW.out]; have KB10 := Lib.hid (KB9.out.trans hk10); obtain ⟨z0, z1, z2, z3, z4, z5, zs⟩ := row6 (RH.out _ KB10.out); have hk10' := Lib.hid hk10; clear hk10))
              go_ret
              exact ⟨rfl, KA.out.trans KB10.out⟩
          · have hne : ((L.length : Int) != (As.length : Int)) = true := by simp; omega
            have hqv : q = 2 := by rw [← HQ.out]; exact sub_arg hT hA (fun x => hlen x.1)
            subst hqv
            have ex := HX1.out (by rw [HQ.out]; decide)
            simp only [hd0, Hd.mk.injEq] at ex
            obtain ⟨rfl, rfl, rfl, rfl, rfl, rfl, rfl, rfl, rfl, rfl, rfl, rfl⟩ := ex
            clear hle hb0 hlen hT hA
            go_wp2_with (first | (go_at_call 28; (with_reducible refine (same_zero _).mono ?_); rintro e w9 ⟨rfl, hk9⟩; have KB9 := Lib.hid (KBR.out.trans hk9); obtain ⟨z0, z1, z2, z3, z4, z5, zs⟩ := row6 (RH.out _ KB9.out); clear hk9 y0 y1 y2 y3 y4 y5 ys))
            go_ret
            exact ⟨rfl, KA.out.trans KB9.out⟩
theorem law_TypesFill (R Ra : Nat) (T : Ty) (h : Hd) (L : List ByteArray) (ad : Option Addr) (c : Nat) (As : List Ty) (ad2 : Option Addr) (c2 : Nat) (K : Nat → Hd) (w : World) (hl : Lies w A0 R T h)
    (ht : tab w A0 9 ad L.length c 1 (fun i => [.string (L.getD i ByteArray.empty)])) (hlc : L.length ≤ c) (hL : ∀ s, s ∈ L → s.size ≤ 140737488351232) (hlL : L.length * 16 ≤ 140737488351232)
    (ha : LiesAll w A0 Ra As ad2 c2 K) (hlA : As.length * 104 ≤ 140737488351232) :
    Calls Try.prog 6 #[h.val, .slice ad L.length c, .slice ad2 As.length c2] w fun e w' => e = .returned (.bool true) ∧ Kp w w' :=
  fill_law (R + 9) (by omega) Ra T h L ad c As ad2 c2 K w (hl.mono (by omega)) ht hlc hL hlL ha hlA
end Go.Proofs.Ytcaffohojaobaaa
