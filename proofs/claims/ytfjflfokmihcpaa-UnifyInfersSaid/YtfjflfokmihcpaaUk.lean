/- Unify of package unify: what it answers; SameAll of the reference on the same types. Condition: what is named lies in memory, and what is found takes at most 2 to the 47 less 4096 bytes. -/
import Derived.Test.YtfjflfokmihcpaaUj
import Derived.Laws.AppendOwnNone
namespace Go.Proofs.Ytfjflfokmihcpaa
open Go.RowKit
set_option linter.unusedVariables false
set_option linter.unusedSimpArgs false
/-- What is answered: nothing, where there is a fault. -/
noncomputable def uRes (L : List ByteArray) (As Bs : List Ty) : List Ty := if uE L As Bs = 0 then uArgs L As Bs else []
theorem uRes_ok {L : List ByteArray} {As Bs : List Ty} (h : uE L As Bs = 0) : uRes L As Bs = uArgs L As Bs := if_pos h
theorem uRes_no {L : List ByteArray} {As Bs : List Ty} (h : uE L As Bs ≠ 0) : uRes L As Bs = [] := if_neg h
theorem uArgs_len (L : List ByteArray) (As Bs : List Ty) : (uArgs L As Bs).length = L.length := by simp [uArgs]
theorem uRes_len (L : List ByteArray) (As Bs : List Ty) : (uRes L As Bs).length ≤ L.length := by
  unfold uRes
  split
  · rw [uArgs_len]; omega
  · simp
theorem c_solve (L : List ByteArray) (na : Option Addr) (nc : Nat) (S : Sel) (R R' : Nat) (As Bs : List Ty) (aa : Option Addr) (ac : Nat) (ba : Option Addr) (bc : Nat) (K J : Nat → Hd) (w : World)
    (ht : tab w S 9 na L.length nc 1 (fun i => [.string (L.getD i ByteArray.empty)])) (hL : ∀ s, s ∈ L → s.size ≤ 140737488351232) (hlL : L.length * 16 ≤ 140737488351232)
    (hA : LiesAll w A0 R As aa ac K) (hlA : As.length * 104 ≤ 140737488351232) (hB : LiesAll w A0 R' Bs ba bc J) (hlB : Bs.length * 104 ≤ 140737488351232) (hl104 : uE L As Bs = 0 → L.length * 104 ≤ 140737488351232) :
    Calls Try.prog 22 #[.slice na L.length nc, .slice aa As.length ac, .slice ba Bs.length bc] w fun e w' => ∃ ad c K, e = .returned (.tuple #[.slice ad (uRes L As Bs).length c, .int .i64 (uAt L As Bs : Nat), .int .i64 (uE L As Bs)]) ∧ Kp w w' ∧ LiesAll w' (From w.heap.size) 9 (uRes L As Bs) ad c K := by
  have main : Calls Try.prog 22 #[.slice na L.length nc, .slice aa As.length ac, .slice ba Bs.length bc] w (SolveP L As Bs w) := by
    cases hy : (allS As && allS Bs) with
    | false => exact solve_form L na nc S R R' As Bs aa ac ba bc K J w ht hL hlL hA hlA hB hlB hy
    | true =>
      by_cases hn : L.Nodup ∧ As.length = Bs.length
      · exact solve_main L na nc S R R' As Bs aa ac ba bc K J w ht hL hlL hA hlA hB hlB hl104 hy hn.1 hn.2
      · exact solve_arg L na nc S R R' As Bs aa ac ba bc K J w ht hL hlL hA hlA hB hlB hy hn
  refine main.mono ?_
  rintro e w' ⟨ad, n, c, K2, rfl, hk, h1, h2⟩
  by_cases h0 : uE L As Bs = 0
  · obtain ⟨rfl, h3⟩ := h2 h0
    refine ⟨ad, c, K2, ?_, hk, ?_⟩
    · rw [uRes_ok h0, uArgs_len]
    · rw [uRes_ok h0]; exact h3
  · obtain ⟨rfl, rfl, rfl⟩ := h1 h0
    refine ⟨none, 0, K2, ?_, hk, ?_⟩
    · rw [uRes_no h0]; rfl
    · rw [uRes_no h0]
      exact ⟨tab_nil _ _ _ _ _, fun i X hX => by simp at hX⟩
theorem infoB : (Try.prog.info? 4).map (fun i => (i.zero, i.size, i.bytes)) = some (some (.bool false), 1, 1) := by kernel_rfl
/-- Whether it is known. -/
def kb (Zs : List Ty) (i : Nat) : Bool := (Zs.getD i tzC).k != 0
theorem lies_k {w : World} {B : Sel} {r : Nat} {T : Ty} {h : Hd} (hl : Lies w B r T h) : h.k = T.k := by
  cases r with
  | zero => exact hl.elim
  | succ r => obtain ⟨K, t, _⟩ := hl; exact t.ek.symm
set_option maxHeartbeats 6400000 in
set_option maxRecDepth 100000 in
theorem c_Unify (L : List ByteArray) (na : Option Addr) (nc : Nat) (S : Sel) (R R' : Nat) (As Bs : List Ty) (aa : Option Addr) (ac : Nat) (ba : Option Addr) (bc : Nat) (K J : Nat → Hd) (w : World)
    (ht : tab w S 9 na L.length nc 1 (fun i => [.string (L.getD i ByteArray.empty)])) (hL : ∀ s, s ∈ L → s.size ≤ 140737488351232) (hlL : L.length * 16 ≤ 140737488351232)
    (hA : LiesAll w A0 R As aa ac K) (hlA : As.length * 104 ≤ 140737488351232) (hB : LiesAll w A0 R' Bs ba bc J) (hlB : Bs.length * 104 ≤ 140737488351232) (hl104 : uE L As Bs = 0 → L.length * 104 ≤ 140737488351232) :
    Calls Try.prog 9 #[.slice na L.length nc, .slice aa As.length ac, .slice ba Bs.length bc] w fun e w' => ∃ ad c K kd kc, e = .returned (.tuple #[.slice ad (uRes L As Bs).length c, .slice kd (uRes L As Bs).length kc, .int .i64 (uE L As Bs)]) ∧ Kp w w' ∧ LiesAll w' (From w.heap.size) 9 (uRes L As Bs) ad c K ∧ tab w' (From w.heap.size) 4 kd (uRes L As Bs).length kc 1 (fun i => [.bool (kb (uRes L As Bs) i)]) := by
  obtain ⟨i2, hs, hx0, hx1, hx2⟩ := info_parts infoB
  have CS := Lib.hid (c_solve L na nc S R R' As Bs aa ac ba bc K J w ht hL hlL hA hlA hB hlB hl104)
  obtain ⟨N, hN⟩ : ∃ N, (uRes L As Bs).length = N := ⟨_, rfl⟩
  have hNL : N ≤ L.length := by rw [← hN]; exact uRes_len L As Bs
  have HN := Lib.hid hN
  have CS2 := Lib.hid (CS.out.mono (fun e w' hp => (show ∃ ad c K, e = .returned (.tuple #[.slice ad N c, .int .i64 (uAt L As Bs : Nat), .int .i64 (uE L As Bs)]) ∧ Kp w w' ∧ LiesAll w' (From w.heap.size) 9 (uRes L As Bs) ad c K by rw [← hN]; exact hp)))
  obtain ⟨q, hq⟩ : ∃ q, uE L As Bs = q := ⟨_, rfl⟩
  obtain ⟨at', hat⟩ : ∃ at', uAt L As Bs = at' := ⟨_, rfl⟩
  rw [hq, hat] at CS2
  rw [hN, hq]
  clear CS hN hq hat ht hL hA hB hl104 hlA hlB
  go_enter Try.func9, Try.ntmps9
  go_wp2_with (go_at_call 22; (with_reducible refine CS2.out.mono ?_); rintro e w1 ⟨ad, c, K2, rfl, hk1, hl1⟩; have K1 := Lib.hid hk1; have HL1 := Lib.hid hl1; clear hk1 hl1)
  go_loopw [7, 21] (fun v i wr => ∃ n : Nat, n ≤ N ∧ i = .int .i64 n ∧ wr.ownsRow w1.heap.size 4 1 v n (flat (fun i => [.bool (kb (uRes L As Bs) i)]) n) ∧ Kp w1 wr) (fun _ i _ => N - (intOf i).toNat)
  case atStart => exact ⟨0, by omega, rfl, by simpa [flat] using World.ownsRow_nil _ _ _ _, Kp.refl _⟩
  case round =>
    obtain ⟨n, hn, rfl, ho, hkr⟩ := hrel
    have HO := Lib.hid ho
    have HKR := Lib.hid hkr
    clear ho hkr
    have hsz : w1.heap.size ≤ wr.heap.size := HKR.out.sz
    by_cases hlt : n < N
    · obtain ⟨b, o, ha, hr⟩ := HL1.out.1.at (by have := HN.out; omega)
      have HA := Lib.hid ha
      have HR := Lib.hid (hr n (by have := HN.out; omega))
      clear ha hr
      obtain ⟨X, hX⟩ : ∃ X, (uRes L As Bs)[n]? = some X := ⟨_, List.getElem?_eq_getElem (by have := HN.out; omega)⟩
      have HKB := Lib.hid (show ((K2 n).k != 0) = kb (uRes L As Bs) n by
        unfold kb
        rw [lies_k (HL1.out.2 n X hX), List.getD_eq_getElem?_getD, hX]
        rfl)
      clear hX
      obtain ⟨kv, hkv⟩ : ∃ kv, kb (uRes L As Bs) n = kv := ⟨_, rfl⟩
      have HKV := Lib.hid hkv
      clear hkv
      go_wp2_with (first | ((with_reducible show wpList _ _ _ (⟨some 23, _, _, _, _, _⟩ :: _) _ _); refine wpList_index_tab (d := 23) _ _ _ rfl 42 Try.underlying23 6 rfl _ _ _ _ o (by rfl) HA.out n (by rfl) hlt ?_) | ((with_reducible show wpList _ _ _ (⟨some 24, _, _, _, _, _⟩ :: _) _ _); refine wpList_load_ty (d := 24) _ _ rfl _ Try.underlying42 w1 _ _ b (o + n * 6) (by rfl) rfl (by first | rfl | omega) (K2 n) HR.out HKR.out rfl ?_) | (go_at_call 23; refine (c_isKnown (K2 n) _).mono ?_; rintro e w5 ⟨rfl, hk5⟩; rw [HKB.out, HKV.out]; have hz5 := hk5.sz) | ((with_reducible show wpList _ _ _ (⟨some 29, _, _, _, _, _⟩ :: _) _ _); refine wpList_append_one_at (d := 29) _ _ 24 rfl w1.heap.size 4 i2 _ 1 1 Try.underlying24 hs hx0 hx1 hx2 rfl (by decide) _ n _ (by rfl) _ (own_keep HO.out (((Kp.refl _).alloc _).trans hk5)) [.bool kv] _ _ _ (by rfl) (by first | rfl | simp) (by rfl) (by rfl) (by intro u hu; simp at hu; subst hu; rfl) (by unfold maxLen; omega) (by omega) (by simp at hz5; omega) ?_; intro v1 w8 ho1 hg1 hat))
      go_roundw
      case rel => exact ⟨n + 1, by omega, by go_num, by rw [flat, HKV.out]; exact ho1, (HKR.out.trans ((((Kp.refl _).alloc _).trans hk5).alloc _)).grown hg1 (fun k hk => (HO.out.lt k hk).1)⟩
      case measure => simp [intOf]; omega
    · obtain rfl : n = N := by omega
      have hz : ¬ ((n : Int) < (n : Int)) := by omega
      obtain ⟨kd, kc, hv, _, htb, _⟩ := tab_of_owns HO.out (fun _ => rfl)
      subst hv
      have HTB := Lib.hid htb
      clear htb
      go_wp2_with fail
      refine bodyPost_ret (v := .tuple #[.slice ad n c, .slice kd n kc, .int .i64 q]) (by simp [results, Try.results9, go_sem]) rfl ?_
      exact ⟨ad, c, K2, kd, kc, rfl, K1.out.trans HKR.out, HL1.out.keep HKR.out, HTB.out.weak (From_le K1.out.sz)⟩
theorem same_any (R R' : Nat) (X : Ty) (h g : Hd) (w : World) (hs : (look 9 X).2.2 = true ∨ X = tzC) (hl : Lies w A0 R X h) (hm : Lies w A0 R' X g) : Calls Try.prog 20 #[h.val, g.val] w fun e w' => e = .returned (.bool true) ∧ Kp w w' := by
  rcases hs with hs | rfl
  · have := c_refSame 9 R R' X X h g w hl hm hs hs
    rwa [eqB_yes rfl] at this
  · cases R with
    | zero => exact hl.elim
    | succ R =>
      cases R' with
      | zero => exact hm.elim
      | succ R' =>
        obtain ⟨K, t, _⟩ := hl
        obtain ⟨J, u, _⟩ := hm
        have f1 : h.fl = 0 := t.ef.symm
        have f2 : g.fl = 0 := u.ef.symm
        have l1 : h.ll = 0 := t.el.symm
        have l2 : g.ll = 0 := u.el.symm
        have s1 : h.fl + h.ll + h.rl = 0 := t.es
        have s2 : g.fl + g.ll + g.rl = 0 := u.es
        have := refSame_00 tzC tzC h g K J w t u (by decide) (by decide) (topB_yes ⟨rfl, rfl, rfl, rfl, rfl, rfl⟩) f2 rfl (by rw [← t.ek, ← u.ek]) (by rw [← t.en, ← u.en]) (by rw [← t.ec, ← u.ec]) (by omega) (by omega) (by omega)
        rwa [eqB_yes rfl] at this
set_option maxHeartbeats 6400000 in
set_option maxRecDepth 100000 in
theorem c_SameAll (l : List Ty) (R R' : Nat) (aa ba : Option Addr) (ac bc : Nat) (K J : Nat → Hd) (w : World) (sm : ∀ (i : Nat) (X : Ty) (hx hy : Hd) (W : World), l[i]? = some X → Lies W A0 R X hx → Lies W A0 R' X hy → Calls Try.prog 20 #[hx.val, hy.val] W fun e w' => e = .returned (.bool true) ∧ Kp W w') (hA : LiesAll w A0 R l aa ac K) (hB : LiesAll w A0 R' l ba bc J) (hb : l.length * 104 ≤ 140737488351232) :
    Calls Try.prog 13 #[.slice aa l.length ac, .slice ba l.length bc] w fun e w' => e = .returned (.bool true) ∧ Kp w w' := by
  have HA := Lib.hid hA
  have HB := Lib.hid hB
  have SM := Lib.hid sm
  clear hA hB sm
  go_enter Try.func13, Try.ntmps13
  go_wp2_with fail
  go_loopw [5] (fun i wr => ∃ n : Nat, n ≤ l.length ∧ i = .int .i64 n ∧ Kp w wr) (fun i _ => l.length - (intOf i).toNat)
  case atStart => exact ⟨0, by omega, rfl, Kp.refl _⟩
  case round =>
    obtain ⟨n, hn, rfl, hkr⟩ := hrel
    have HKR := Lib.hid hkr
    clear hkr
    by_cases hlt : n < l.length
    · obtain ⟨b, o, ha, hr⟩ := (HA.out.keep HKR.out).1.at (by omega)
      obtain ⟨tb, to, hb, hrb⟩ := (HB.out.keep HKR.out).1.at (by omega)
      subst ha hb
      have xx : ∀ j v, (K n).cells[j]? = some v → wr.cell? ⟨b, o + n * 6 + j, none⟩ = some v := hr n hlt
      have yy : ∀ j v, (J n).cells[j]? = some v → wr.cell? ⟨tb, to + n * 6 + j, none⟩ = some v := hrb n hlt
      have x0 : wr.cell? ⟨b, o + n * 6, none⟩ = some (.int .i64 (K n).k) := xx 0 _ rfl
      have x1 : wr.cell? ⟨b, o + n * 6 + 1, none⟩ = some (.string (K n).nm) := xx 1 _ rfl
      have x2 : wr.cell? ⟨b, o + n * 6 + 2, none⟩ = some (.int .i64 (K n).con) := xx 2 _ rfl
      have x3 : wr.cell? ⟨b, o + n * 6 + 3, none⟩ = some (.slice (K n).fa (K n).fl (K n).fc) := xx 3 _ rfl
      have x4 : wr.cell? ⟨b, o + n * 6 + 4, none⟩ = some (.slice (K n).la (K n).ll (K n).lc) := xx 4 _ rfl
      have x5 : wr.cell? ⟨b, o + n * 6 + 5, none⟩ = some (.slice (K n).ra (K n).rl (K n).rc) := xx 5 _ rfl
      have y0 : wr.cell? ⟨tb, to + n * 6, none⟩ = some (.int .i64 (J n).k) := yy 0 _ rfl
      have y1 : wr.cell? ⟨tb, to + n * 6 + 1, none⟩ = some (.string (J n).nm) := yy 1 _ rfl
      have y2 : wr.cell? ⟨tb, to + n * 6 + 2, none⟩ = some (.int .i64 (J n).con) := yy 2 _ rfl
      have y3 : wr.cell? ⟨tb, to + n * 6 + 3, none⟩ = some (.slice (J n).fa (J n).fl (J n).fc) := yy 3 _ rfl
      have y4 : wr.cell? ⟨tb, to + n * 6 + 4, none⟩ = some (.slice (J n).la (J n).ll (J n).lc) := yy 4 _ rfl
      have y5 : wr.cell? ⟨tb, to + n * 6 + 5, none⟩ = some (.slice (J n).ra (J n).rl (J n).rc) := yy 5 _ rfl
      clear xx yy hr hrb
      obtain ⟨X, hX⟩ : ∃ X, l[n]? = some X := ⟨_, List.getElem?_eq_getElem hlt⟩
      have CX := Lib.hid (SM.out n X (K n) (J n) wr.drew hX ((HA.out.2 n X hX).keep HKR.out.drew) ((HB.out.2 n X hX).keep HKR.out.drew))
      clear hX
      have j1 : (0 : Int) ≤ n := by omega
      have j2 : (n : Int) < l.length := by omega
      go_wp2_with fail
      go_region_held3 (fun w' => w'.cell? ⟨b, o + n * 6, none⟩ = some (.int .i64 (K n).k) ∧ w'.cell? ⟨b, o + n * 6 + 1, none⟩ = some (.string (K n).nm) ∧ w'.cell? ⟨b, o + n * 6 + 2, none⟩ = some (.int .i64 (K n).con) ∧ w'.cell? ⟨b, o + n * 6 + 3, none⟩ = some (.slice (K n).fa (K n).fl (K n).fc) ∧ w'.cell? ⟨b, o + n * 6 + 4, none⟩ = some (.slice (K n).la (K n).ll (K n).lc) ∧ w'.cell? ⟨b, o + n * 6 + 5, none⟩ = some (.slice (K n).ra (K n).rl (K n).rc) ∧ w'.cell? ⟨tb, to + n * 6, none⟩ = some (.int .i64 (J n).k) ∧ w'.cell? ⟨tb, to + n * 6 + 1, none⟩ = some (.string (J n).nm) ∧ w'.cell? ⟨tb, to + n * 6 + 2, none⟩ = some (.int .i64 (J n).con) ∧ w'.cell? ⟨tb, to + n * 6 + 3, none⟩ = some (.slice (J n).fa (J n).fl (J n).fc) ∧ w'.cell? ⟨tb, to + n * 6 + 4, none⟩ = some (.slice (J n).la (J n).ll (J n).lc) ∧ w'.cell? ⟨tb, to + n * 6 + 5, none⟩ = some (.slice (J n).ra (J n).rl (J n).rc))
        (first | exact ⟨x0, x1, x2, x3, x4, x5, y0, y1, y2, y3, y4, y5⟩ | exact ⟨hk6.cellv x0, hk6.cellv x1, hk6.cellv x2, hk6.cellv x3, hk6.cellv x4, hk6.cellv x5, hk6.cellv y0, hk6.cellv y1, hk6.cellv y2, hk6.cellv y3, hk6.cellv y4, hk6.cellv y5⟩)
        ((first | (go_at_call 20; refine CX.out.mono ?_; rintro e w6 ⟨rfl, hk6⟩)))
      go_wp2_with fail
      go_roundw
      case rel => exact ⟨n + 1, by omega, by go_num, HKR.out.drew.trans hk6⟩
      case measure => simp [intOf]; omega
    · obtain rfl : n = l.length := by omega
      have hz : ¬ ((l.length : Int) < (l.length : Int)) := by omega
      go_wp2_with fail
      go_ret
      exact ⟨rfl, HKR.out⟩
end Go.Proofs.Ytfjflfokmihcpaa
