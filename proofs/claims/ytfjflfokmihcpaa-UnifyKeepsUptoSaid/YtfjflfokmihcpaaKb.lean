/- The walk of UnifyKeeps. Condition: the names and the types lie in memory; no slice is longer than 1048576, and no type has more than 100000000 types next in it. -/
import Derived.Test.YtfjflfokmihcpaaCe
import Derived.Test.YtfjflfokmihcpaaCc
import Derived.Test.YtfjflfokmihcpaaVa
import Derived.Test.YtfjflfokmihcpaaUl
import Derived.Test.YtfjflfokmihcpaaFg3
namespace Go.Proofs.Ytfjflfokmihcpaa
open Go.RowKit
set_option linter.unusedVariables false
set_option linter.unusedSimpArgs false
set_option linter.unusedSimpArgs false
set_option maxHeartbeats 6400000 in
set_option maxRecDepth 100000 in
theorem c_SameAllG (l : List Ty) (R R' : Nat) (aa ba : Option Addr) (ac bc : Nat) (K J : Nat → Hd) (w : World) (sm : ∀ (i : Nat) (X : Ty) (W : World), l[i]? = some X → Kp w W → Calls Try.prog 20 #[(K i).val, (J i).val] W fun e w' => e = .returned (.bool true) ∧ Kp W w') (hA : LiesAll w A0 R l aa ac K) (hB : LiesAll w A0 R' l ba bc J) (hb : l.length * 104 ≤ 140737488351232) :
    Calls Try.prog 13 #[.slice aa l.length ac, .slice ba l.length bc] w fun e w' => e = .returned (.bool true) ∧ Kp w w' := by
  have HA := Lib.hid hA
  have HB := Lib.hid hB
  have SM := Lib.hid sm
  clear hA hB sm
  go_enter Try.func13, Try.ntmps13
  go_wp2_with fail
  go_loopw [5] (fun i wr => ∃ n : Nat, n ≤ l.length ∧ i = .int .i64 n ∧ Kp w wr) (fun i _ => l.length - (intOf i).toNat)
  case atStart => exact ⟨0, by omega, rfl, Kp.refl _⟩
  case round =>
    obtain ⟨n, hn, rfl, hkr⟩ := hrel
    have HKR := Lib.hid hkr
    clear hkr
    by_cases hlt : n < l.length
    · obtain ⟨b, o, ha, hr⟩ := (HA.out.keep HKR.out).1.at (by omega)
      obtain ⟨tb, to, hb, hrb⟩ := (HB.out.keep HKR.out).1.at (by omega)
      subst ha hb
      have xx : ∀ j v, (K n).cells[j]? = some v → wr.cell? ⟨b, o + n * 6 + j, none⟩ = some v := hr n hlt
      have yy : ∀ j v, (J n).cells[j]? = some v → wr.cell? ⟨tb, to + n * 6 + j, none⟩ = some v := hrb n hlt
      have x0 : wr.cell? ⟨b, o + n * 6, none⟩ = some (.int .i64 (K n).k) := xx 0 _ rfl
      have x1 : wr.cell? ⟨b, o + n * 6 + 1, none⟩ = some (.string (K n).nm) := xx 1 _ rfl
      have x2 : wr.cell? ⟨b, o + n * 6 + 2, none⟩ = some (.int .i64 (K n).con) := xx 2 _ rfl
      have x3 : wr.cell? ⟨b, o + n * 6 + 3, none⟩ = some (.slice (K n).fa (K n).fl (K n).fc) := xx 3 _ rfl
      have x4 : wr.cell? ⟨b, o + n * 6 + 4, none⟩ = some (.slice (K n).la (K n).ll (K n).lc) := xx 4 _ rfl
      have x5 : wr.cell? ⟨b, o + n * 6 + 5, none⟩ = some (.slice (K n).ra (K n).rl (K n).rc) := xx 5 _ rfl
      have y0 : wr.cell? ⟨tb, to + n * 6, none⟩ = some (.int .i64 (J n).k) := yy 0 _ rfl
      have y1 : wr.cell? ⟨tb, to + n * 6 + 1, none⟩ = some (.string (J n).nm) := yy 1 _ rfl
      have y2 : wr.cell? ⟨tb, to + n * 6 + 2, none⟩ = some (.int .i64 (J n).con) := yy 2 _ rfl
      have y3 : wr.cell? ⟨tb, to + n * 6 + 3, none⟩ = some (.slice (J n).fa (J n).fl (J n).fc) := yy 3 _ rfl
      have y4 : wr.cell? ⟨tb, to + n * 6 + 4, none⟩ = some (.slice (J n).la (J n).ll (J n).lc) := yy 4 _ rfl
      have y5 : wr.cell? ⟨tb, to + n * 6 + 5, none⟩ = some (.slice (J n).ra (J n).rl (J n).rc) := yy 5 _ rfl
      clear xx yy hr hrb
      obtain ⟨X, hX⟩ : ∃ X, l[n]? = some X := ⟨_, List.getElem?_eq_getElem hlt⟩
      have CX := Lib.hid (SM.out n X wr.drew hX HKR.out.drew)
      clear hX
      have j1 : (0 : Int) ≤ n := by omega
      have j2 : (n : Int) < l.length := by omega
      go_wp2_with fail
      go_region_held3 (fun w' => w'.cell? ⟨b, o + n * 6, none⟩ = some (.int .i64 (K n).k) ∧ w'.cell? ⟨b, o + n * 6 + 1, none⟩ = some (.string (K n).nm) ∧ w'.cell? ⟨b, o + n * 6 + 2, none⟩ = some (.int .i64 (K n).con) ∧ w'.cell? ⟨b, o + n * 6 + 3, none⟩ = some (.slice (K n).fa (K n).fl (K n).fc) ∧ w'.cell? ⟨b, o + n * 6 + 4, none⟩ = some (.slice (K n).la (K n).ll (K n).lc) ∧ w'.cell? ⟨b, o + n * 6 + 5, none⟩ = some (.slice (K n).ra (K n).rl (K n).rc) ∧ w'.cell? ⟨tb, to + n * 6, none⟩ = some (.int .i64 (J n).k) ∧ w'.cell? ⟨tb, to + n * 6 + 1, none⟩ = some (.string (J n).nm) ∧ w'.cell? ⟨tb, to + n * 6 + 2, none⟩ = some (.int .i64 (J n).con) ∧ w'.cell? ⟨tb, to + n * 6 + 3, none⟩ = some (.slice (J n).fa (J n).fl (J n).fc) ∧ w'.cell? ⟨tb, to + n * 6 + 4, none⟩ = some (.slice (J n).la (J n).ll (J n).lc) ∧ w'.cell? ⟨tb, to + n * 6 + 5, none⟩ = some (.slice (J n).ra (J n).rl (J n).rc))
        (first | exact ⟨x0, x1, x2, x3, x4, x5, y0, y1, y2, y3, y4, y5⟩ | exact ⟨hk6.cellv x0, hk6.cellv x1, hk6.cellv x2, hk6.cellv x3, hk6.cellv x4, hk6.cellv x5, hk6.cellv y0, hk6.cellv y1, hk6.cellv y2, hk6.cellv y3, hk6.cellv y4, hk6.cellv y5⟩)
        ((first | (go_at_call 20; refine CX.out.mono ?_; rintro e w6 ⟨rfl, hk6⟩)))
      go_wp2_with fail
      go_roundw
      case rel => exact ⟨n + 1, by omega, by go_num, HKR.out.drew.trans hk6⟩
      case measure => simp [intOf]; omega
    · obtain rfl : n = l.length := by omega
      have hz : ¬ ((l.length : Int) < (l.length : Int)) := by omega
      go_wp2_with fail
      go_ret
      exact ⟨rfl, HKR.out⟩
/-- A row of fresh blocks, as the list of a header. -/
def hdL (ad : Option Addr) (n c : Nat) : Hd := ⟨0, ⟨#[]⟩, 0, none, 0, 0, ad, n, c, none, 0, 0⟩
theorem row_wl {w : World} {n0 n1 : Nat} {r : Nat} {l : List Ty} {ad : Option Addr} {c : Nat} {K : Nat → Hd} (h : LiesAll w (From n0) r l ad c K) (hb : l.length * 104 ≤ 140737488351232) (hn : w.heap.size ≤ n1) : WL w (fun b => n0 ≤ b ∧ b < n1) (r + 1) (hdL ad l.length c) := by
  have hl : Lies w (From n0) (r + 1) (.mk 0 ⟨#[]⟩ 0 [] l.length l) (hdL ad l.length c) := by
    refine ⟨K, ⟨rfl, rfl, rfl, rfl, rfl, ?_, by simp [hdL], by simp [hdL], by simp [hdL, ByteArray.size], fun n hn => (by cases hn), by simp [hdL], hb, by simp [hdL], tab_nil _ _ _ _ _, ?_, tab_nil _ _ _ _ _⟩, fun i X hX => h.2 i X hX⟩
    · simp [hdL, Ty.kids]
    · exact h.1.congr (fun i hi => by simp [hdL])
  exact Lies.wl (B := From n0) trivial (fun b hb hS => ⟨hS, Nat.lt_of_lt_of_le hb hn⟩) hl
theorem c_SameAllN (l : List Ty) (n : Nat) (hn : l.length = n) (R R' : Nat) (aa ba : Option Addr) (ac bc : Nat) (K J : Nat → Hd) (w : World) (sm : ∀ (i : Nat) (X : Ty) (W : World), l[i]? = some X → Kp w W → Calls Try.prog 20 #[(K i).val, (J i).val] W fun e w' => e = .returned (.bool true) ∧ Kp W w') (hA : LiesAll w A0 R l aa ac K) (hB : LiesAll w A0 R' l ba bc J) (hb : n * 104 ≤ 140737488351232) :
    Calls Try.prog 13 #[.slice aa n ac, .slice ba n bc] w fun e w' => e = .returned (.bool true) ∧ Kp w w' := by
  subst hn
  exact c_SameAllG l R R' aa ba ac bc K J w sm hA hB hb
theorem c_ownsN (r : Nat) (As : List Ty) (n : Nat) (hn : As.length = n) (ad : Option Addr) (c : Nat) (K : Nat → Hd) (w : World) (hl : LiesAll w A0 r As ad c K) (hb : n * 104 ≤ 140737488351232) :
    Calls Try.prog 10 #[.slice ad n c] w fun e w' => ∃ ad c K', e = .returned (.slice ad n c) ∧ LiesAll w' (From w.heap.size) r As ad c K' ∧ Kp w w' := by
  subst hn
  exact c_owns r As ad c K w hl hb
/-- What lies elsewhere stays. -/
theorem Sp.old {P : Nat → Prop} {w0 w w' : World} (h : Sp P w w') (k : Kp w0 w) (hP : ∀ b, P b → w0.heap.size ≤ b) : Kp w0 w' :=
  ⟨h.os.trans k.os, h.tape.trans k.tape, h.output.trans k.output, Nat.le_trans k.sz h.sz, fun x hx => (h.same x (Nat.lt_of_lt_of_le hx k.sz) (fun hp => by have := hP x hp; omega)).trans (k.blk hx)⟩
theorem LiesAll.spo {P : Nat → Prop} {w w' : World} {B : Sel} {r : Nat} {l : List Ty} {a : Option Addr} {c : Nat} {K : Nat → Hd} (hl : LiesAll w B r l a c K) (h : Sp P w w') (hB : ∀ b, b < w.heap.size → B.S b → ¬ P b) : LiesAll w' B r l a c K :=
  ⟨hl.1.turn h.fr h.sz hB, fun i X hX => (hl.2 i X hX).turn h.fr h.sz hB⟩
theorem ownS_new {w : World} : (w.alloc (.cells #[] 9)).ownsRow w.heap.size 9 1 (.slice (some ⟨w.heap.size, 0, none⟩) 0 0) 0 [] := World.ownsRow_made w #[] 0 (Nat.le_refl _) (by unfold maxLen; omega) (by rfl)
theorem res_ok (L : List ByteArray) (As Bs : List Ty) : ∀ (i : Nat) (X : Ty), (uRes L As Bs)[i]? = some X → (look 9 X).2.2 = true ∨ X = tzC := fun i X hX => by
  by_cases h0 : uE L As Bs = 0
  · cases hy : (allS As && allS Bs) with
    | false => rw [uE_form hy] at h0; cases h0
    | true =>
      by_cases hn : L.Nodup ∧ As.length = Bs.length
      · cases hf : found L As Bs with
        | none => rw [uE_type hy hn hf] at h0; cases h0
        | some σ =>
          rw [uRes_ok h0, uArgs_at hf, List.getElem?_map] at hX
          cases hs : L[i]? with
          | none => rw [hs] at hX; cases hX
          | some s =>
            rw [hs] at hX
            have e : (σ s).getD tzC = X := by simpa using hX
            cases hx : σ s with
            | none => rw [hx] at e; exact .inr e.symm
            | some T =>
              rw [hx] at e
              have e' : T = X := e
              subst e'
              exact .inl (found_fine (Bool.and_eq_true_iff.1 hy).1 (Bool.and_eq_true_iff.1 hy).2 hf s T hx).2
      · rw [uE_arg hy hn] at h0; cases h0
  · rw [uRes_no h0] at hX; simp at hX
set_option maxHeartbeats 12800000 in
set_option maxRecDepth 1000000 in
theorem law_UnifyKeeps (NF : Nat) (hNF : NF ≤ 100000000) (L : List ByteArray) (na : Option Addr) (nc : Nat) (R : Nat) (As : List Ty) (aa : Option Addr) (ac : Nat) (K : Nat → Hd) (R' : Nat) (Bs : List Ty) (ba : Option Addr) (bc : Nat) (J : Nat → Hd) (w : World)
    (ht : tab w A0 9 na L.length nc 1 (fun i => [.string (L.getD i ByteArray.empty)])) (hlc : L.length ≤ nc) (hL : ∀ s, s ∈ L → s.size ≤ 140737488351232) (hlL : L.length * 16 ≤ 140737488351232) (hnL : L.length ≤ 1048576)
    (hA : LiesAll w A0 R As aa ac K) (hlA : As.length * 104 ≤ 140737488351232) (hnA : As.length ≤ 1048576) (hFA : ∀ (i : Nat) (X : Ty), As[i]? = some X → LiesF NF w R X (K i)) (hB : LiesAll w A0 R' Bs ba bc J) (hlB : Bs.length * 104 ≤ 140737488351232) (hnB : Bs.length ≤ 1048576) (hFB : ∀ (i : Nat) (X : Ty), Bs[i]? = some X → LiesF NF w R' X (J i)) :
    Calls Try.prog 8 #[.slice na L.length nc, .slice aa As.length ac, .slice ba Bs.length bc] w fun e w' => e = .returned (.bool true) ∧ Kp w w' := by
  obtain ⟨q, hq⟩ : ∃ q, uE L As Bs = q := ⟨_, rfl⟩
  have HQ := Lib.hid hq
  obtain ⟨N, hN⟩ : ∃ N, (uRes L As Bs).length = N := ⟨_, rfl⟩
  have HN := Lib.hid hN
  have hNL : N ≤ L.length := by rw [← hN]; exact uRes_len L As Bs
  have FA := Lib.hid hFA
  have FB := Lib.hid hFB
  have SRES := Lib.hid (res_ok L As Bs)
  obtain ⟨i2, hs, hx0, hx1, hx2⟩ := info_parts infoS
  have HT := Lib.hid ht
  have HL := Lib.hid hL
  have HA := Lib.hid hA
  have HB := Lib.hid hB
  have KS := Lib.hid (show Kp w (w.alloc (.cells #[] 9)) from (Kp.refl w).alloc _)
  have HO := Lib.hid (World.ownsRow_made w #[] 0 (Nat.le_refl _) (by unfold maxLen; omega) (by rfl) : (w.alloc (.cells #[] 9)).ownsRow w.heap.size 9 1 (.slice (some ⟨w.heap.size, 0, none⟩) 0 0) 0 [])
  have CA : Hid (∀ W, Kp w W → Calls Try.prog 10 #[.slice aa As.length ac] W fun e w' => ∃ ad c K, e = .returned (.slice ad As.length c) ∧ LiesAll w' A0 R As ad c K ∧ Kp W w') := Lib.hid (fun W k => (c_owns R As aa ac K W (hA.keep k) hlA).mono (fun e w' ⟨ad, c, K, e1, e2, e3⟩ => ⟨ad, c, K, e1, LiesAll.weak e2 (A0_le _), e3⟩))
  have CB : Hid (∀ W, Kp w W → Calls Try.prog 10 #[.slice ba Bs.length bc] W fun e w' => ∃ ad c K, e = .returned (.slice ad Bs.length c) ∧ LiesAll w' A0 R' Bs ad c K ∧ Kp W w') := Lib.hid (fun W k => (c_owns R' Bs ba bc J W (hB.keep k) hlB).mono (fun e w' ⟨ad, c, K, e1, e2, e3⟩ => ⟨ad, c, K, e1, LiesAll.weak e2 (A0_le _), e3⟩))
  have CU : Hid (∀ (na : Option Addr) (nc : Nat) (S : Sel) (aa : Option Addr) (ac : Nat) (K : Nat → Hd) (ba : Option Addr) (bc : Nat) (J : Nat → Hd) (W : World), tab W S 9 na L.length nc 1 (fun i => [.string (L.getD i ByteArray.empty)]) → LiesAll W A0 R As aa ac K → LiesAll W A0 R' Bs ba bc J → Calls Try.prog 9 #[.slice na L.length nc, .slice aa As.length ac, .slice ba Bs.length bc] W fun e w' => ∃ ad c K kd kc, e = .returned (.tuple #[.slice ad N c, .slice kd N kc, .int .i64 q]) ∧ Kp W w' ∧ LiesAll w' (From W.heap.size) 9 (uRes L As Bs) ad c K ∧ tab w' A0 4 kd N kc 1 (fun i => [.bool (kb (uRes L As Bs) i)])) := Lib.hid (fun na nc S aa ac K ba bc J W h1 h2 h3 => (c_Unify L na nc S R R' As Bs aa ac ba bc K J W h1 hL hlL h2 hlA h3 hlB (fun _ => by omega)).mono (fun e w' ⟨ad, c, K, kd, kc, e1, e2, e3, e4⟩ => ⟨ad, c, K, kd, kc, by rw [e1, HQ.out, HN.out], e2, e3, by rw [HN.out] at e4; exact e4.weak (A0_le _)⟩))
  clear ht hL hA hB
  clear hq hN hFA hFB
  go_enter Try.func8, Try.ntmps8
  go_wp2_with (first
    | (go_at_call 10; (with_reducible refine (CA.out w (Kp.refl w)).mono ?_); rintro e w1 ⟨aa1, ac1, KA1, rfl, hl, hk⟩; have HL0 := Lib.hid hl; have K1 := Lib.hid hk; clear hl hk)
    | (go_at_call 10; (with_reducible refine (CB.out w1 K1.out).mono ?_); rintro e w2 ⟨ba1, bc1, KB1, rfl, hl, hk⟩; have HL2 := Lib.hid hl; have HL1 := Lib.hid (HL0.out.keep hk); have K2 := Lib.hid (K1.out.trans hk); clear hl hk)
    | ((with_reducible show wpList _ _ _ (⟨some 26, _, _, _, _, _⟩ :: _) _ _); refine wpList_append_tab (d := 26) _ _ 22 rfl w2.heap.size 9 i2 _ 1 16 Try.underlying22 hs hx0 hx1 hx2 rfl (by decide) _ 0 _ (by rfl) (ownS_new (w := w2)) w _ _ _ _ _ (by rfl) HT.out (K2.out.alloc _) (fun _ => rfl) (fun _ u hu => by (rw [List.mem_singleton] at hu; subst hu; rfl)) (by unfold maxLen; omega) (by omega) (by simp) ?_; intro v1 w3 ho1 hg1; rw [Nat.zero_add, List.nil_append] at ho1; obtain ⟨na1, nc1, hv1, _, ht1, _⟩ := tab_of_owns ho1 (fun _ => rfl); subst hv1; have HT1 := Lib.hid ht1; have Jw3 := Lib.hid (show Kp w2 w3 from ((Kp.refl _).alloc _).grown hg1 (fun k hk => by cases hk; exact Nat.le_refl _)); clear ht1 ho1 hg1)
    | (go_at_call 9; (with_reducible refine (CU.out _ _ _ _ _ _ _ _ _ w3 HT1.out (HL1.out.keep Jw3.out) (HL2.out.keep Jw3.out)).mono ?_); rintro e w4 ⟨ad, c, KR, kd, kc, rfl, hk, hl, _⟩; have Jw4 := Lib.hid hk; have HLw4 := Lib.hid hl; clear hk hl)
    | (have HD4 := Lib.hid (Jw3.out.trans Jw4.out); have K4 := Lib.hid (K2.out.trans HD4.out); (with_reducible show wpList _ _ _ (⟨some 36, _, _, _, _, _⟩ :: _) _ _); refine wpList_append_tab (d := 36) _ _ 22 rfl w4.heap.size 9 i2 _ 1 16 Try.underlying22 hs hx0 hx1 hx2 rfl (by decide) _ 0 _ (by rfl) (ownS_new (w := w4)) w _ _ _ _ _ (by rfl) HT.out (K4.out.alloc _) (fun _ => rfl) (fun _ u hu => by (rw [List.mem_singleton] at hu; subst hu; rfl)) (by unfold maxLen; omega) (by omega) (by simp) ?_; intro v1 w5 ho1 hg1; rw [Nat.zero_add, List.nil_append] at ho1; obtain ⟨na2, nc2, hv1, _, ht1, _⟩ := tab_of_owns ho1 (fun _ => rfl); subst hv1; have HT2 := Lib.hid ht1; have Jw5 := Lib.hid (show Kp w4 w5 from ((Kp.refl _).alloc _).grown hg1 (fun k hk => by cases hk; exact Nat.le_refl _)); clear ht1 ho1 hg1)
    | (go_at_call 9; (with_reducible refine (CU.out _ _ _ _ _ _ _ _ _ w5 HT2.out (HL1.out.keep (HD4.out.trans Jw5.out)) (HL2.out.keep (HD4.out.trans Jw5.out))).mono ?_); rintro e w6 ⟨ad2, c2, KR2, kd2, kc2, rfl, hk, hl, _⟩; have Jw6 := Lib.hid hk; have HLw6 := Lib.hid hl; clear hk hl)
    | (go_at_call 12; (with_reducible refine (c_answers w6).mono ?_); rintro e w7 ⟨rfl, hk⟩; have HD7 := Lib.hid (Jw5.out.trans (Jw6.out.trans hk)); have J67 := Lib.hid hk; clear hk)
    | (go_at_call 13; have X1 := (c_SameAllN (uRes L As Bs) N HN.out 9 9 ad ad2 c c2 KR KR2 w7 (fun i X W hX hk => same_any 9 9 X _ _ W (SRES.out i X hX) ((((HLw4.out.2 i X hX).any).keep HD7.out).keep hk) ((((HLw6.out.2 i X hX).any).keep J67.out).keep hk)) ((LiesAll.weak HLw4.out (A0_le _)).keep HD7.out) ((LiesAll.weak HLw6.out (A0_le _)).keep J67.out) (by omega)); (with_reducible refine X1.mono ?_); clear X1; rintro e w8 ⟨rfl, hk⟩; have J28 := Lib.hid ((HD4.out.trans HD7.out).trans hk); have J68 := Lib.hid (J67.out.trans hk); clear hk)
    | (go_at_call 13; have X1 := (c_SameAllG As R R aa1 aa ac1 ac KA1 K w8 (fun i X W hX hk => c_refSameU NF hNF R R X (KA1 i) (K i) W ((((HL1.out.2 i X hX).any).keep J28.out).keep hk) (((FA.out i X hX).keep (K2.out.trans J28.out)).keep hk)) (HL1.out.keep J28.out) (HA.out.keep (K2.out.trans J28.out)) hlA); (with_reducible refine X1.mono ?_); clear X1; rintro e w9 ⟨rfl, hk⟩; have J29 := Lib.hid (J28.out.trans hk); have J69 := Lib.hid (J68.out.trans hk); clear hk)
    | (go_at_call 13; have X1 := (c_SameAllG Bs R' R' ba1 ba bc1 bc KB1 J w9 (fun i X W hX hk => c_refSameU NF hNF R' R' X (KB1 i) (J i) W ((((HL2.out.2 i X hX).any).keep J29.out).keep hk) (((FB.out i X hX).keep (K2.out.trans J29.out)).keep hk)) (HL2.out.keep J29.out) (HB.out.keep (K2.out.trans J29.out)) hlB); (with_reducible refine X1.mono ?_); clear X1; rintro e w10 ⟨rfl, hk⟩; have J2a := Lib.hid (J29.out.trans hk); have J6a := Lib.hid (J69.out.trans hk); clear hk)
    | (go_at_call 10; have X1 := (c_ownsN 9 (uRes L As Bs) N HN.out ad2 c2 KR2 w10 ((LiesAll.weak HLw6.out (A0_le _)).keep J6a.out) (by omega)); (with_reducible refine X1.mono ?_); clear X1; rintro e w11 ⟨ad3, c3, KR3, rfl, hl, hk⟩; have HL11 := Lib.hid hl; have J2b := Lib.hid (J2a.out.trans hk); have J6b := Lib.hid (J6a.out.trans hk); have Jab := Lib.hid hk; clear hl hk))
  obtain ⟨P, hP⟩ : ∃ P : Nat → Prop, P = fun b => w3.heap.size ≤ b ∧ b < w4.heap.size := ⟨_, rfl⟩
  have s23 := Jw3.out.sz
  have s34 := Jw4.out.sz
  have s45 := Jw5.out.sz
  have s56 := Jw6.out.sz
  have s6a := J6a.out.sz
  have sw2 := K2.out.sz
  have HWL := Lib.hid (show WL w11 P 10 (hdL ad N c) from by
    have h0 := (row_wl (w := w4) (n0 := w3.heap.size) (n1 := w4.heap.size) HLw4.out (by rw [HN.out]; omega) (Nat.le_refl _)).sp (Sp.of_kp (Jw5.out.trans (Jw6.out.trans J6b.out)))
    rw [HN.out] at h0
    rw [hP]
    exact h0)
  have HPP := Lib.hid (fun b => (by rw [hP] : P b ↔ (w3.heap.size ≤ b ∧ b < w4.heap.size)))
  clear hP
  go_loopw [16] (fun i wr => ∃ n : Nat, n ≤ N ∧ i = .int .i64 n ∧ Sp P w11 wr) (fun i _ => N - (intOf i).toNat)
  case atStart => exact ⟨0, Nat.zero_le _, rfl, Sp.refl _ _⟩
  case round =>
    obtain ⟨n, hn, rfl, hsp⟩ := hrel
    have HSP := Lib.hid hsp
    have HSI := Lib.hid hsp
    clear hsp
    by_cases hlt : n < N
    · have hltI : (n : Int) < N := by omega
      obtain ⟨wo, hwo⟩ : ∃ wo, wo = wr := ⟨_, rfl⟩
      subst hwo
      go_wp2_with fail
      go_loopw [17] (fun i wr => ∃ k : Nat, k ≤ 9000000000000 ∧ i = .int .i64 k ∧ Sp P w11 wr) (fun i _ => 9000000000000 - (intOf i).toNat)
      case atStart => exact ⟨0, Nat.zero_le _, rfl, HSI.out⟩
      case round =>
        obtain ⟨k, hk, rfl, hs2⟩ := hrel
        have HS2 := Lib.hid hs2
        obtain ⟨b, cur, ha, hp, hc, hsz, hg⟩ := (HWL.out.sp hs2).2.1.2 (by rw [show (hdL ad N c).ll = N from rfl]; omega)
        obtain ⟨cs, hrow, hd, hcs, hwl⟩ := hg n hlt
        subst hcs
        have ha' : ad = some ⟨b, 0, none⟩ := ha
        have y4 := cell_at hc hrow 4 (.slice hd.la hd.ll hd.lc) rfl
        have hi1 : ∀ W, (Instr.indexAt 23 (.slice ad N c) (.int .i64 (n : Nat))).run Try.prog W = .ok (.pointer (some ⟨b, 0 + n * 6, none⟩)) W := fun W => by rw [ha']; exact run_index_tabF (w := W) (b := b) (o := 0) Try.underlying23 (m := 6) (by kernel_rfl) hlt
        simp only [Nat.zero_add] at hi1
        clear ha ha'
        have hbd : hd.ll * 104 ≤ 140737488351232 := hwl.2.1.1
        by_cases hlk : k < hd.ll
        · obtain ⟨b2, cur2, ha2, hp2, hc2, hsz2, _⟩ := hwl.2.1.2 (by omega)
          have hi2 : ∀ W, (Instr.indexAt 23 (.slice hd.la hd.ll hd.lc) (.int .i64 (k : Nat))).run Try.prog W = .ok (.pointer (some ⟨b2, 0 + k * 6, none⟩)) W := fun W => by rw [ha2]; exact run_index_tabF (w := W) (b := b2) (o := 0) Try.underlying23 (m := 6) (by kernel_rfl) hlk
          simp only [Nat.zero_add] at hi2
          clear ha2
          have hi7 : (k + 1) * 6 ≤ cur2.size := Nat.le_trans (Nat.mul_le_mul_right 6 hlk) hsz2
          obtain ⟨q0, c0⟩ := cell_in (k := k * 6) hc2 (by omega)
          obtain ⟨q1, c1⟩ := cell_in (k := k * 6 + 1) hc2 (by omega)
          obtain ⟨q2, c2⟩ := cell_in (k := k * 6 + 2) hc2 (by omega)
          obtain ⟨q3, c3⟩ := cell_in (k := k * 6 + 3) hc2 (by omega)
          obtain ⟨q4, c4⟩ := cell_in (k := k * 6 + 4) hc2 (by omega)
          obtain ⟨q5, c5⟩ := cell_in (k := k * 6 + 5) hc2 (by omega)
          have u0 := unfrozen hc2 (k * 6)
          have u1 := unfrozen hc2 (k * 6 + 1)
          have u2 := unfrozen hc2 (k * 6 + 2)
          have u3 := unfrozen hc2 (k * 6 + 3)
          have u4 := unfrozen hc2 (k * 6 + 4)
          have u5 := unfrozen hc2 (k * 6 + 5)
          have HC2 := Lib.hid hc2
          have HP2 := Lib.hid hp2
          have HI7 := Lib.hid hi7
          have hb1 : (k : Int) < 9000000000000 := by omega
          have hlk' : (k : Int) < hd.ll := by omega
          clear hs2 hg hrow hwl hc hp hi7 hc2 hp2 hsz2 hsz
          go_wp2_with fail
          go_roundw
          case rel => exact ⟨k + 1, by omega, by go_num, HS2.out.trans (by have h9 : Sp P wr _ := Sp.set6 (hd := hdK 99) HP2.out HC2.out HI7.out ⟨rfl, rfl, rfl⟩; exact h9)⟩
          case measure => simp [intOf]; omega
        · have hlk' : ¬ ((k : Int) < hd.ll) := by omega
          have HSI := Lib.hid hs2
          clear hs2 hg hrow hwl hc hp hsz
          go_wp2_with fail
          clear hi1 y4 hlk' hbd
          go_loopw [18] (fun i wr => ∃ k : Nat, k ≤ 9000000000000 ∧ i = .int .i64 k ∧ Sp P w11 wr) (fun i _ => 9000000000000 - (intOf i).toNat)
          case atStart => exact ⟨0, Nat.zero_le _, rfl, HSI.out⟩
          case round =>
            obtain ⟨k, hk, rfl, hs2⟩ := hrel
            have HS2 := Lib.hid hs2
            obtain ⟨b, cur, ha, hp, hc, hsz, hg⟩ := (HWL.out.sp hs2).2.1.2 (by rw [show (hdL ad N c).ll = N from rfl]; omega)
            obtain ⟨cs, hrow, hd, hcs, hwl⟩ := hg n hlt
            subst hcs
            have ha' : ad = some ⟨b, 0, none⟩ := ha
            have y4 := cell_at hc hrow 3 (.slice hd.fa hd.fl hd.fc) rfl
            have hi1 : ∀ W, (Instr.indexAt 23 (.slice ad N c) (.int .i64 (n : Nat))).run Try.prog W = .ok (.pointer (some ⟨b, 0 + n * 6, none⟩)) W := fun W => by rw [ha']; exact run_index_tabF (w := W) (b := b) (o := 0) Try.underlying23 (m := 6) (by kernel_rfl) hlt
            simp only [Nat.zero_add] at hi1
            clear ha ha'
            have hbd : hd.fl * 104 ≤ 140737488351232 := hwl.1.1
            by_cases hlk : k < hd.fl
            · obtain ⟨b2, cur2, ha2, hp2, hc2, hsz2, _⟩ := hwl.1.2 (by omega)
              have hi2 : ∀ W, (Instr.indexAt 40 (.slice hd.fa hd.fl hd.fc) (.int .i64 (k : Nat))).run Try.prog W = .ok (.pointer (some ⟨b2, 0 + k * 7, none⟩)) W := fun W => by rw [ha2]; exact run_index_tabF (w := W) (b := b2) (o := 0) Try.underlying40 (m := 7) (by kernel_rfl) hlk
              simp only [Nat.zero_add] at hi2
              clear ha2
              have hi7 : (k + 1) * 7 ≤ cur2.size := Nat.le_trans (Nat.mul_le_mul_right 7 hlk) hsz2
              obtain ⟨q0, c0⟩ := cell_in (k := k * 7) hc2 (by omega)
              obtain ⟨q1, c1⟩ := cell_in (k := k * 7 + 1) hc2 (by omega)
              obtain ⟨q2, c2⟩ := cell_in (k := k * 7 + 2) hc2 (by omega)
              obtain ⟨q3, c3⟩ := cell_in (k := k * 7 + 3) hc2 (by omega)
              obtain ⟨q4, c4⟩ := cell_in (k := k * 7 + 4) hc2 (by omega)
              obtain ⟨q5, c5⟩ := cell_in (k := k * 7 + 5) hc2 (by omega)
              obtain ⟨q6, c6⟩ := cell_in (k := k * 7 + 6) hc2 (by omega)
              have u0 := unfrozen hc2 (k * 7)
              have u1 := unfrozen hc2 (k * 7 + 1)
              have u2 := unfrozen hc2 (k * 7 + 2)
              have u3 := unfrozen hc2 (k * 7 + 3)
              have u4 := unfrozen hc2 (k * 7 + 4)
              have u5 := unfrozen hc2 (k * 7 + 5)
              have u6 := unfrozen hc2 (k * 7 + 6)
              have HC2 := Lib.hid hc2
              have HP2 := Lib.hid hp2
              have HI7 := Lib.hid hi7
              have hb1 : (k : Int) < 9000000000000 := by omega
              have hlk' : (k : Int) < hd.fl := by omega
              clear hs2 hg hrow hwl hc hp hi7 hc2 hp2 hsz2 hsz
              go_wp2_with fail
              go_roundw
              case rel => exact ⟨k + 1, by omega, by go_num, HS2.out.trans (by have h9 : Sp P wr _ := Sp.set7 (nm := ⟨#[103, 111, 110, 101]⟩) (hd := hdK 0) HP2.out HC2.out HI7.out ⟨rfl, rfl, rfl⟩; exact h9)⟩
              case measure => simp [intOf]; omega
            · have hlk' : ¬ ((k : Int) < hd.fl) := by omega
              have HSI := Lib.hid hs2
              clear hs2 hg hrow hwl hc hp hsz
              go_wp2_with fail
              clear hi1 y4 hlk' hbd
              go_roundw
              case rel => exact ⟨n + 1, by omega, by go_num, HSI.out⟩
              case measure => simp [intOf]; omega
    · obtain rfl : n = N := by omega
      have hz : ¬ ((n : Int) < (n : Int)) := by omega
      have B1 := Lib.hid ((LiesAll.spo (HLw6.out.keep J6b.out) HSP.out (fun b _ (hb : w5.heap.size ≤ b) hp => by have := ((HPP.out b).1 hp).2; omega)))
      have B2 := Lib.hid ((LiesAll.spo HL11.out HSP.out (fun b _ (hb : w10.heap.size ≤ b) hp => by have := ((HPP.out b).1 hp).2; omega)))
      have B3 := Lib.hid (show LiesAll wr A0 R' Bs ba1 bc1 KB1 from by
        have := Sp.old (w0 := w2) HSP.out J2b.out (fun b hp => by have := ((HPP.out b).1 hp).1; omega)
        exact HL2.out.keep this)
      have KF := Lib.hid (Sp.old (w0 := w) HSP.out (K2.out.trans J2b.out) (fun b hp => by have := ((HPP.out b).1 hp).1; omega))
      go_wp2_with (first
        | (go_at_call 13; have X1 := (c_SameAllN (uRes L As Bs) n HN.out 9 9 ad2 ad3 c2 c3 KR2 KR3 wr (fun i X W hX hk => same_any 9 9 X _ _ W (SRES.out i X hX) (((B1.out.2 i X hX).any).keep hk) (((B2.out.2 i X hX).any).keep hk)) (LiesAll.weak B1.out (A0_le _)) (LiesAll.weak B2.out (A0_le _)) (by omega)); (with_reducible refine X1.mono ?_); clear X1; rintro e w12 ⟨rfl, hk⟩; have J12 := Lib.hid hk; clear hk)
        | (go_at_call 13; have X1 := (c_SameAllG Bs R' R' ba1 ba bc1 bc KB1 J w12 (fun i X W hX hk => c_refSameU NF hNF R' R' X (KB1 i) (J i) W ((((B3.out.2 i X hX).any).keep J12.out).keep hk) (((FB.out i X hX).keep (KF.out.trans J12.out)).keep hk)) (B3.out.keep J12.out) (HB.out.keep (KF.out.trans J12.out)) hlB); (with_reducible refine X1.mono ?_); clear X1; rintro e w13 ⟨rfl, hk⟩; have K13 := Lib.hid (KF.out.trans (J12.out.trans hk)); clear hk))
      go_ret
      exact ⟨rfl, K13.out⟩
end Go.Proofs.Ytfjflfokmihcpaa
