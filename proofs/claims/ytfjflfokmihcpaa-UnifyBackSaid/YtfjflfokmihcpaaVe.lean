/- The walk of UnifyBack; the law. Condition: the type, the names and the types put in lie in memory. -/
import Derived.Test.YtfjflfokmihcpaaVd
import Derived.Deep.QuietTactic
namespace Go.Proofs.Ytfjflfokmihcpaa
open Go.RowKit
set_option linter.unusedVariables false
set_option linter.unusedSimpArgs false
theorem hasB_sn {L : List ByteArray} {n : Nat} {s x : ByteArray} (hn : n < L.length) (hs : L.getD n ByteArray.empty = s) : hasB (L.take (n + 1)) x = (hasB (L.take n) x || (s.toList == x.toList)) := by
  rw [take_sn hn hs]
  rcases same_or s x with ⟨e1, e2⟩ | ⟨e1, e2⟩
  · rw [e2, Bool.or_true]
    exact hasB_yes (by rw [List.mem_append, List.mem_singleton]; exact .inr e1.symm)
  · rw [e2, Bool.or_false]
    by_cases hm : x ∈ L.take n
    · rw [hasB_yes hm, hasB_yes (List.mem_append_left _ hm)]
    · rw [hasB_no hm, hasB_no (fun q => by
        rw [List.mem_append, List.mem_singleton] at q
        exact q.elim hm (fun q => e1 q.symm))]
theorem back_there {T : Ty} {L : List ByteArray} {As : List Ty} {σ : St} (h0 : subE T L As = 0) (hF : Fine L σ) (hx : Ext σ (stand L As)) (ho : ∀ s, s ∈ L → ((σ s).isSome = true ↔ occ s 9 T)) {n : Nat} {s : ByteArray} (hn : n < L.length) (hs : L.getD n ByteArray.empty = s) :
    (σ s).isSome = hasB (holes 9 T []) s ∧ ∀ Z, σ s = some Z → As[n]? = some Z := by
  have hat : L[n]? = some s := by rw [List.getElem?_eq_getElem hn, ← hs, List.getD_eq_getElem?_getD, List.getElem?_eq_getElem hn]; rfl
  refine ⟨?_, fun Z hZ => ?_⟩
  · cases hq : (σ s).isSome with
    | true => exact (hasB_yes (holes_mem.2 (.inr ((ho s (List.mem_of_getElem? hat)).1 hq)))).symm
    | false => exact (hasB_no (fun hm => by
        rcases holes_mem.1 hm with h | h
        · cases h
        · rw [(ho s (List.mem_of_getElem? hat)).2 h] at hq; cases hq)).symm
  · have h1 := hx s Z hZ
    unfold stand at h1
    rw [idx_at_nd (back_facts h0).2.2.2.1 hat] at h1
    exact h1
set_option maxHeartbeats 25600000 in
set_option maxRecDepth 1000000 in
theorem back_yes (T : Ty) (h : Hd) (L : List ByteArray) (na : Option Addr) (nc : Nat) (Ra : Nat) (As : List Ty) (aa : Option Addr) (ac : Nat) (K : Nat → Hd) (w : World) (hl : Lies w A0 9 T h)
    (ht : tab w A0 9 na L.length nc 1 (fun i => [.string (L.getD i ByteArray.empty)])) (hlc : L.length ≤ nc) (hL : ∀ s, s ∈ L → s.size ≤ 140737488351232) (hlL : L.length * 16 ≤ 140737488351232)
    (hA : LiesAll w A0 Ra As aa ac K) (hlA : As.length * 104 ≤ 140737488351232) (h0 : subE T L As = 0) :
    Calls Try.prog 6 #[h.val, .slice na L.length nc, .slice aa As.length ac] w fun e w' => e = .returned (.bool true) ∧ Kp w w' := by
  obtain ⟨X, hX⟩ : ∃ X, fill (stand L As) 9 T = X := ⟨_, rfl⟩
  obtain ⟨σ, hf, hu0, hfine, hext, hocc⟩ := back_found h0
  rw [hX] at hf hu0
  have hbf := back_facts h0
  rw [hX] at hbf
  have hq := h0
  obtain ⟨i2, hs, hx0, hx1, hx2⟩ := info_parts infoS
  have HT := Lib.hid ht
  have KW0 := Lib.hid (show Kp w (w.alloc (.cells #[.int .i64 h.k, .string h.nm, .int .i64 h.con, .slice h.fa h.fl h.fc, .slice h.la h.ll h.lc, .slice h.ra h.rl h.rc] 42)) from (Kp.refl w).alloc _)
  have CF := Lib.hid (fun W (k : Kp (w.alloc (.cells #[.int .i64 h.k, .string h.nm, .int .i64 h.con, .slice h.fa h.fl h.fc, .slice h.la h.ll h.lc, .slice h.ra h.rl h.rc] 42)) W) => c_Fill0 9 T h W (hl.keep (KW0.out.trans k)))
  have CA : Hid (∀ W, Kp w W → Calls Try.prog 10 #[.slice aa As.length ac] W fun e w' => ∃ ad c K, e = .returned (.slice ad As.length c) ∧ LiesAll w' A0 Ra As ad c K ∧ Kp W w') := Lib.hid (fun W k => (c_owns Ra As aa ac K W (hA.keep k) hlA).mono (fun e w' ⟨ad, c, K, e1, e2, e3⟩ => ⟨ad, c, K, e1, LiesAll.weak e2 (A0_le _), e3⟩))
  have CS : Hid (∀ (h1 : Hd) (na : Option Addr) (nc : Nat) (S' S : Sel) (aa : Option Addr) (ac : Nat) (K : Nat → Hd) (W : World), Lies W S 9 T h1 → tab W S' 9 na L.length nc 1 (fun i => [.string (L.getD i ByteArray.empty)]) → LiesAll W A0 Ra As aa ac K → Calls Try.prog 17 #[h1.val, .slice na L.length nc, .slice aa As.length ac] W fun e w' => ∃ h' : Hd, e = .returned (.tuple #[h'.val, .int .i64 0]) ∧ Kp W w' ∧ Lies w' A0 9 X h') := Lib.hid (fun h1 na nc S' S aa ac K W a b c => (c_Subst 9 Ra T h1 L na nc _ As aa ac K W a.any b hL hlL c hlA).mono (fun e w' ⟨h', e1, e2, e3, e4⟩ => ⟨h', by rw [e1, hq], e2, lies_look hbf.2.2.2.2 (hX ▸ (e3 h0).any)⟩))
  have hUL : (uRes L [T] [X]).length = L.length := by rw [uRes_ok hu0, uArgs_len]
  have CO : Hid (∀ (W : World) (x : Nat), W.heap[x]? = some (.cells #[.int .i64 h.k, .string h.nm, .int .i64 h.con, .slice h.fa h.fl h.fc, .slice h.la h.ll h.lc, .slice h.ra h.rl h.rc] 42 (0, 0)) → Kp w W → Calls Try.prog 10 #[.slice (some ⟨x, 0, none⟩) 1 1] W fun e w' => ∃ ad c K, e = .returned (.slice ad 1 c) ∧ LiesAll w' A0 9 [T] ad c K ∧ Kp W w') := Lib.hid (fun W x hb hk => (c_owns 9 [T] _ 1 _ W (one_rowB hb (hl.keep hk)) (by simp)).mono (fun e w' ⟨ad, c, K, e1, e2, e3⟩ => ⟨ad, c, K, e1, LiesAll.weak e2 (A0_le _), e3⟩))
  have CUU : Hid (∀ (h2 : Hd) (na : Option Addr) (nc : Nat) (S : Sel) (ad : Option Addr) (c : Nat) (K : Nat → Hd) (x : Nat) (W : World), tab W S 9 na L.length nc 1 (fun i => [.string (L.getD i ByteArray.empty)]) → LiesAll W A0 9 [T] ad c K → W.heap[x]? = some (.cells #[.int .i64 h2.k, .string h2.nm, .int .i64 h2.con, .slice h2.fa h2.fl h2.fc, .slice h2.la h2.ll h2.lc, .slice h2.ra h2.rl h2.rc] 42 (0, 0)) → Lies W A0 9 X h2 → Calls Try.prog 9 #[.slice na L.length nc, .slice ad 1 c, .slice (some ⟨x, 0, none⟩) 1 1] W fun e w' => ∃ ad c KR kd kc, e = .returned (.tuple #[.slice ad L.length c, .slice kd L.length kc, .int .i64 0]) ∧ Kp W w' ∧ LiesAll w' A0 9 (uRes L [T] [X]) ad c KR ∧ tab w' A0 4 kd L.length kc 1 (fun i => [.bool (kb (uRes L [T] [X]) i)])) := Lib.hid (fun h2 na nc S ad c K x W a b d e => (c_Unify L na nc S 9 9 [T] [X] ad c _ 1 K _ W a hL hlL b (by simp) (one_rowB d e) (by simp) (fun _ => by have := hbf.2.2.1; omega)).mono (fun e w' ⟨ad, c, KR, kd, kc, e1, e2, e3, e4⟩ => ⟨ad, c, KR, kd, kc, by rw [e1, hu0, hUL], e2, LiesAll.weak e3 (A0_le _), by rw [hUL] at e4; exact e4.weak (A0_le _)⟩))
  have HFINE := Lib.hid hfine
  have HEXT := Lib.hid hext
  have HOCC := Lib.hid hocc
  have HFND := Lib.hid hf
  have HU0 := Lib.hid hu0
  have HBF := Lib.hid hbf
  have HSUB := Lib.hid h0
  have HTL := Lib.hid hl
  have HAL := Lib.hid hA
  have HB : Hid (∀ W, Kp (w.alloc (.cells #[.int .i64 h.k, .string h.nm, .int .i64 h.con, .slice h.fa h.fl h.fc, .slice h.la h.ll h.lc, .slice h.ra h.rl h.rc] 42)) W → W.cell? ⟨w.heap.size, 0, none⟩ = some (.int .i64 h.k) ∧ W.cell? ⟨w.heap.size, 1, none⟩ = some (.string h.nm) ∧ W.cell? ⟨w.heap.size, 2, none⟩ = some (.int .i64 h.con) ∧ W.cell? ⟨w.heap.size, 3, none⟩ = some (.slice h.fa h.fl h.fc) ∧ W.cell? ⟨w.heap.size, 4, none⟩ = some (.slice h.la h.ll h.lc) ∧ W.cell? ⟨w.heap.size, 5, none⟩ = some (.slice h.ra h.rl h.rc)) := Lib.hid (fun W km => by
    obtain ⟨p0, p1, p2, p3, p4, p5, ps⟩ := boxed (h := h) (show Kp (w.alloc (.cells #[.int .i64 h.k, .string h.nm, .int .i64 h.con, .slice h.fa h.fl h.fc, .slice h.la h.ll h.lc, .slice h.ra h.rl h.rc] 42)) W from km)
    exact ⟨p0, p1, p2, p3, p4, p5⟩)
  clear h0 hq hf hu0 hfine hext hocc hbf hl ht hA hUL hX
  go_enter Try.func6, Try.ntmps6
  go_wp2_with (first
    | (go_at_call 18; (with_reducible refine (CF.out _ (Kp.refl _)).mono ?_); rintro e w1 ⟨h1, rfl, hl, hk⟩; have HL1 := Lib.hid hl; have K1 := Lib.hid (KW0.out.trans hk); have J01 := Lib.hid hk; clear hl hk)
    | ((with_reducible show wpList _ _ _ (⟨some 21, _, _, _, _, _⟩ :: _) _ _); refine wpList_append_tab (d := 21) _ _ 22 rfl w1.heap.size 9 i2 _ 1 16 Try.underlying22 hs hx0 hx1 hx2 rfl (by decide) _ 0 _ (by rfl) (ownB_new (w := w1)) w _ _ _ _ _ (by rfl) HT.out (K1.out.alloc _) (fun _ => rfl) (fun _ u hu => by (rw [List.mem_singleton] at hu; subst hu; rfl)) (by unfold maxLen; omega) (by omega) (by simp) ?_; intro v1 w2 ho1 hg1; rw [Nat.zero_add, List.nil_append] at ho1; obtain ⟨na1, nc1, hv1, _, ht1, _⟩ := tab_of_owns ho1 (fun _ => rfl); subst hv1; have HT1 := Lib.hid ht1; have J12 := Lib.hid (show Kp w1 w2 from ((Kp.refl _).alloc _).grown hg1 (fun k hk => by cases hk; exact Nat.le_refl _)); clear ht1 ho1 hg1)
    | (go_at_call 10; (with_reducible refine (CA.out w2 (K1.out.trans J12.out)).mono ?_); rintro e w3 ⟨aa1, ac1, KA1, rfl, hl, hk⟩; have HA1 := Lib.hid hl; have J23 := Lib.hid hk; clear hl hk)
    | (go_at_call 17; (with_reducible refine (CS.out h1 na1 nc1 _ _ aa1 ac1 KA1 w3 (HL1.out.keep (J12.out.trans J23.out)) (HT1.out.keep J23.out) HA1.out).mono ?_); rintro e w4 ⟨h2, rfl, hk, hx⟩; have J34 := Lib.hid hk; have HX4 := Lib.hid hx; have K4 := Lib.hid (K1.out.trans (J12.out.trans (J23.out.trans hk))); have J04 := Lib.hid (J01.out.trans (J12.out.trans (J23.out.trans hk))); clear hk hx)
    | (go_at_call 12; (with_reducible refine (c_answers _).mono ?_); rintro e w5 ⟨rfl, hk⟩; have J45 := Lib.hid hk; have K5 := Lib.hid ((K4.out.alloc _).trans hk); clear hk))
  have RH := Lib.hid (show w5.heap[w.heap.size]? = some (.cells #[.int .i64 h.k, .string h.nm, .int .i64 h.con, .slice h.fa h.fl h.fc, .slice h.la h.ll h.lc, .slice h.ra h.rl h.rc] 42 (0, 0)) from ((J04.out.trans (((Kp.refl w4).alloc _).trans J45.out)).blk (b := w.heap.size) (by simp)).trans (heap_alloc_new _ _))
  have RX := Lib.hid (show w5.heap[w4.heap.size]? = some (.cells #[.int .i64 h2.k, .string h2.nm, .int .i64 h2.con, .slice h2.fa h2.fl h2.fc, .slice h2.la h2.ll h2.lc, .slice h2.ra h2.rl h2.rc] 42 (0, 0)) from (J45.out.blk (b := w4.heap.size) (by simp)).trans (heap_alloc_new _ _))
  have CU := fun (na : Option Addr) (nc : Nat) (ad : Option Addr) (c : Nat) (K : Nat → Hd) (x : Nat) (W : World) a b d (k : Kp w5 W) => CUU.out h2 na nc A0 ad c K x W a b d (HX4.out.keep (((Kp.refl w4).alloc _).trans (J45.out.trans k)))
  have CO2 := fun W x hb (k : Kp w5 W) => CO.out W x hb (K5.out.trans k)
  refine regB _ w5 w5 w L na nc _ T X h h2 w.heap.size w4.heap.size (by simp [WB]) (Kp.refl _) rfl RH.out rfl RX.out rfl HT.out K5.out hlL CO2 CU ?_
  intro v w6 hk6 hv6
  obtain ⟨ad, c, KR, kd, kc, e9, e10, e11, hl6, ht6⟩ := hv6
  simp only [WB, List.foldl, Act.put, List.setIfInBounds_toArray, List.set_cons_zero, List.set_cons_succ]
  rw [e9, e10, e11]
  have K6 := Lib.hid (K5.out.trans hk6)
  have HL6 := Lib.hid hl6
  have HT6 := Lib.hid ht6
  have CH := Lib.hid (c_Holes0 9 T h w6 (HTL.out.keep K6.out) HBF.out.1)
  obtain ⟨p0, p1, p2, p3, p4, p5⟩ := HB.out w6 ((J04.out.trans (((Kp.refl w4).alloc _).trans J45.out)).trans hk6)
  clear hl6 ht6 CU CO2 hk6
  go_wp2_with (first | (go_at_call 19; (with_reducible refine CH.out.mono ?_); rintro e w7 ⟨v', rfl, hr, hk⟩; obtain ⟨nu, cu, rfl, _, htu⟩ := hr.tab; have HTU := Lib.hid (htu.weak (A0_le _)); have J67 := Lib.hid hk; have K7 := Lib.hid (K6.out.trans hk); clear hr htu hk))
  obtain ⟨H, hH⟩ : ∃ H, holes 9 T [] = H := ⟨_, rfl⟩
  obtain ⟨Zs, hZs⟩ : ∃ Zs, uRes L [T] [X] = Zs := ⟨_, rfl⟩
  have HH := Lib.hid hH
  have HZS := Lib.hid hZs
  rw [hZs] at HL6 HT6
  rw [hH] at HTU
  rw [hH]
  have J6 := Lib.hid (show Kp w w6 from K6.out)
  have hHl : H.length ≤ 8796093022208 := by have h1 := holes_len HBF.out.1 []; rw [hH] at h1; have h2 := HB_9; simp only [List.length_nil, Nat.zero_add] at h1; exact Nat.le_trans h1 h2
  clear hH hZs CH p0 p1 p2 p3 p4 p5
  go_wp2_with fail
  go_loopw [13] (fun i wr => ∃ n : Nat, n ≤ L.length ∧ i = .int .i64 n ∧ Kp w7 wr) (fun i _ => L.length - (intOf i).toNat)
  case atStart => exact ⟨0, Nat.zero_le _, rfl, Kp.refl _⟩
  case round =>
    obtain ⟨n, hn, rfl, hkr⟩ := hrel
    have HKR := Lib.hid hkr
    clear hkr
    by_cases hlt : n < L.length
    · obtain ⟨sn, hsn⟩ : ∃ sn, L.getD n ByteArray.empty = sn := ⟨_, rfl⟩
      have HKB := Lib.hid (kb_known HFINE.out HFND.out HU0.out hlt hsn)
      have HTH := Lib.hid (back_there HSUB.out HFINE.out HEXT.out HOCC.out hlt hsn)
      obtain ⟨kb1, ko, hkd, hkc⟩ := HT6.out.at (by omega)
      obtain ⟨nb, no, hna, hnc⟩ := HT.out.at (by omega)
      have HKD := Lib.hid hkd
      have HNA := Lib.hid hna
      have C1 := Lib.hid (fun W (k : Kp w7 W) => (show W.cell? ⟨kb1, ko + n, none⟩ = some (.bool (hasB H sn)) from by
        have := (J67.out.trans k).cellv (rangeAt_head (hkc n hlt))
        rw [Nat.mul_one] at this
        rw [this, ← HZS.out, HKB.out.1, HTH.out.1, HH.out]))
      have C2 := Lib.hid (fun W (k : Kp w7 W) => (show W.cell? ⟨nb, no + n, none⟩ = some (.string sn) from by
        have := (K7.out.trans k).cellv (rangeAt_head (hnc n hlt))
        rw [Nat.mul_one, hsn] at this
        exact this))
      have j1 : (0 : Int) ≤ n := by omega
      have j2 : (n : Int) < L.length := by omega
      subst hna
      subst hkd
      clear hkc hnc HKD HNA
      obtain ⟨wo, hwo⟩ : ∃ wo, wo = wr := ⟨_, rfl⟩
      subst hwo
      go_wp2_with fail
      go_loopw [14, 15] (fun b k wr => ∃ m : Nat, m ≤ H.length ∧ k = .int .i64 m ∧ b = .bool (hasB (H.take m) sn) ∧ Kp w7 wr) (fun _ k _ => H.length - (intOf k).toNat)
      case atStart => exact ⟨0, Nat.zero_le _, rfl, by rw [List.take_zero, hasB_no (by simp)], HKR.out⟩
      case round =>
        obtain ⟨m, hm, rfl, rfl, hkr⟩ := hrel
        have HKR2 := Lib.hid hkr
        clear hkr
        by_cases hlm : m < H.length
        · obtain ⟨sm, hsm⟩ : ∃ sm, H.getD m ByteArray.empty = sm := ⟨_, rfl⟩
          have HSM := Lib.hid (hasB_sn (x := sn) hlm hsm)
          obtain ⟨ub, uo, hu, huc⟩ := HTU.out.at (by omega)
          subst hu
          have c1 : wr.cell? ⟨ub, uo + m, none⟩ = some (.string sm) := by
            have := HKR2.out.cellv (rangeAt_head (huc m hlm))
            rw [Nat.mul_one] at this
            rw [this]
            exact congrArg (fun x => some (Value.string x)) hsm
          have c2 := C2.out _ HKR2.out
          have c3 := lt_of_cell c1
          have c4 := lt_of_cell c2
          have i1 : (0 : Int) ≤ m := by omega
          have i2 : (m : Int) < H.length := by omega
          clear huc
          obtain ⟨bb, hbb⟩ : ∃ bb, hasB (H.take m) sn = bb := ⟨_, rfl⟩
          rw [hbb] at HSM
          rw [hbb]
          obtain ⟨ee, hee⟩ : ∃ ee, (sm.toList == sn.toList) = ee := ⟨_, rfl⟩
          rw [hee] at HSM
          clear hsm hbb
          cases bb with
          | false =>
            go_wp2_with fail
            go_quiet (fail)
            go_wp2_with fail
            go_roundw
            case rel => exact ⟨m + 1, by omega, by go_num, by rw [HSM.out]; first | rfl | simp [hee], (HKR2.out).drewN _⟩
            case measure => simp [intOf]; omega
          | true =>
            go_wp2_with fail
            refine wp_region_held_drew (S := fun _ => True) (by kernel_rfl) (trivial) (fun hHeld0 => ?_)
            refine wpAnyH_take (i := 0) (oi := { dst := some 77, op := Op.move (Operand.tmp 14), type := 4, pos := "law.go:80", after := #[], guard := none }) (v := ?_) rfl (by kernel_rfl) (by kernel_rfl) (by kernel_rfl) (fun _ _ _ h => h) (Or.inl ⟨by rfl, ?_⟩) (by assumption) ?_
            rotate_left
            · (intro wz hSw; (try dsimp only at hSw); go_simp; first | done | with_reducible rfl)
            try simp only [Act.put, List.setIfInBounds_toArray, List.set_cons_zero, List.set_cons_succ]
            refine wpAnyH_take (i := 1) (oi := { dst := some 78, op := Op.move (Operand.tmp 77), type := 4, pos := "law.go:80", after := #[{ on := 0, ground := Ground.data }], guard := none }) (v := ?_) rfl (by kernel_rfl) (by kernel_rfl) (by kernel_rfl) (fun _ _ _ h => h) (Or.inl ⟨by rfl, ?_⟩) (by assumption) ?_
            rotate_left
            · (intro wz hSw; (try dsimp only at hSw); go_simp; first | done | with_reducible rfl)
            try simp only [Act.put, List.setIfInBounds_toArray, List.set_cons_zero, List.set_cons_succ]
            refine wpAnyH_take (i := 2) (oi := { dst := some 79, op := Op.move (Operand.tmp 12), type := 22, pos := "law.go:80", after := #[{ on := 1, ground := Ground.guard }], guard := some (1, false) }) (v := undef) rfl (by kernel_rfl) (by kernel_rfl) (by kernel_rfl) (fun _ _ _ h => h) (Or.inr ⟨by rfl, rfl⟩) (by assumption) ?_
            try simp only [Act.put, List.setIfInBounds_toArray, List.set_cons_zero, List.set_cons_succ]
            refine wpAnyH_take (i := 3) (oi := { dst := some 80, op := Op.move (Operand.tmp 15), type := 3, pos := "law.go:80", after := #[{ on := 1, ground := Ground.guard }], guard := some (1, false) }) (v := undef) rfl (by kernel_rfl) (by kernel_rfl) (by kernel_rfl) (fun _ _ _ h => h) (Or.inr ⟨by rfl, rfl⟩) (by assumption) ?_
            try simp only [Act.put, List.setIfInBounds_toArray, List.set_cons_zero, List.set_cons_succ]
            refine wpAnyH_take (i := 4) (oi := { dst := some 81, op := Op.indexAddr 22 (Operand.tmp 79) (Operand.tmp 80), type := 0, pos := "law.go:80", after := #[{ on := 2, ground := Ground.data }, { on := 3, ground := Ground.data }, { on := 1, ground := Ground.guard }], guard := some (1, false) }) (v := undef) rfl (by kernel_rfl) (by kernel_rfl) (by kernel_rfl) (fun _ _ _ h => h) (Or.inr ⟨by rfl, rfl⟩) (by assumption) ?_
            try simp only [Act.put, List.setIfInBounds_toArray, List.set_cons_zero, List.set_cons_succ]
            refine wpAnyH_take (i := 5) (oi := { dst := some 82, op := Op.load 9 (Operand.tmp 81), type := 9, pos := "law.go:80", after := #[{ on := 4, ground := Ground.data }, { on := 1, ground := Ground.guard }], guard := some (1, false) }) (v := undef) rfl (by kernel_rfl) (by kernel_rfl) (by kernel_rfl) (fun _ _ _ h => h) (Or.inr ⟨by rfl, rfl⟩) (by assumption) ?_
            try simp only [Act.put, List.setIfInBounds_toArray, List.set_cons_zero, List.set_cons_succ]
            refine wpAnyH_take (i := 6) (oi := { dst := some 83, op := Op.move (Operand.tmp 1), type := 22, pos := "law.go:80", after := #[{ on := 1, ground := Ground.guard }], guard := some (1, false) }) (v := undef) rfl (by kernel_rfl) (by kernel_rfl) (by kernel_rfl) (fun _ _ _ h => h) (Or.inr ⟨by rfl, rfl⟩) (by assumption) ?_
            try simp only [Act.put, List.setIfInBounds_toArray, List.set_cons_zero, List.set_cons_succ]
            refine wpAnyH_take (i := 7) (oi := { dst := some 84, op := Op.move (Operand.tmp 13), type := 3, pos := "law.go:80", after := #[{ on := 1, ground := Ground.guard }], guard := some (1, false) }) (v := undef) rfl (by kernel_rfl) (by kernel_rfl) (by kernel_rfl) (fun _ _ _ h => h) (Or.inr ⟨by rfl, rfl⟩) (by assumption) ?_
            try simp only [Act.put, List.setIfInBounds_toArray, List.set_cons_zero, List.set_cons_succ]
            refine wpAnyH_take (i := 8) (oi := { dst := some 85, op := Op.indexAddr 22 (Operand.tmp 83) (Operand.tmp 84), type := 0, pos := "law.go:80", after := #[{ on := 6, ground := Ground.data }, { on := 7, ground := Ground.data }, { on := 1, ground := Ground.guard }], guard := some (1, false) }) (v := undef) rfl (by kernel_rfl) (by kernel_rfl) (by kernel_rfl) (fun _ _ _ h => h) (Or.inr ⟨by rfl, rfl⟩) (by assumption) ?_
            try simp only [Act.put, List.setIfInBounds_toArray, List.set_cons_zero, List.set_cons_succ]
            refine wpAnyH_take (i := 9) (oi := { dst := some 86, op := Op.load 9 (Operand.tmp 85), type := 9, pos := "law.go:80", after := #[{ on := 8, ground := Ground.data }, { on := 1, ground := Ground.guard }], guard := some (1, false) }) (v := undef) rfl (by kernel_rfl) (by kernel_rfl) (by kernel_rfl) (fun _ _ _ h => h) (Or.inr ⟨by rfl, rfl⟩) (by assumption) ?_
            try simp only [Act.put, List.setIfInBounds_toArray, List.set_cons_zero, List.set_cons_succ]
            refine wpAnyH_take (i := 10) (oi := { dst := some 87, op := Op.binOp BinOp.eql 9 (Operand.tmp 82) (Operand.tmp 86) 9, type := 4, pos := "law.go:80", after := #[{ on := 5, ground := Ground.data }, { on := 9, ground := Ground.data }, { on := 1, ground := Ground.guard }], guard := some (1, false) }) (v := undef) rfl (by kernel_rfl) (by kernel_rfl) (by kernel_rfl) (fun _ _ _ h => h) (Or.inr ⟨by rfl, rfl⟩) (by assumption) ?_
            try simp only [Act.put, List.setIfInBounds_toArray, List.set_cons_zero, List.set_cons_succ]
            refine wpAnyH_take (i := 11) (oi := { dst := some 88, op := Op.pick (Operand.tmp 78) (Operand.const (Value.bool true)) (Operand.tmp 87), type := 4, pos := "law.go:80", after := #[{ on := 1, ground := Ground.data }, { on := 10, ground := Ground.data }], guard := none }) (v := ?_) rfl (by kernel_rfl) (by kernel_rfl) (by kernel_rfl) (fun _ _ _ h => h) (Or.inl ⟨by rfl, ?_⟩) (by assumption) ?_
            rotate_left
            · (intro wz hSw; (try dsimp only at hSw); go_simp; first | done | with_reducible rfl)
            try simp only [Act.put, List.setIfInBounds_toArray, List.set_cons_zero, List.set_cons_succ]
            refine wpAnyH_take (i := 12) (oi := { dst := some 14, op := Op.assign (Operand.tmp 88), type := 4, pos := "law.go:80", after := #[{ on := 11, ground := Ground.data }, { on := 1, ground := Ground.chain }, { on := 0, ground := Ground.phase }, { on := 1, ground := Ground.phase }, { on := 2, ground := Ground.phase }, { on := 3, ground := Ground.phase }, { on := 4, ground := Ground.phase }, { on := 5, ground := Ground.phase }, { on := 6, ground := Ground.phase }, { on := 7, ground := Ground.phase }, { on := 8, ground := Ground.phase }, { on := 9, ground := Ground.phase }, { on := 10, ground := Ground.phase }, { on := 11, ground := Ground.phase }], guard := none }) (v := ?_) rfl (by kernel_rfl) (by kernel_rfl) (by kernel_rfl) (fun _ _ _ h => h) (Or.inl ⟨by rfl, ?_⟩) (by assumption) ?_
            rotate_left
            · (intro wz hSw; (try dsimp only at hSw); go_simp; first | done | with_reducible rfl)
            try simp only [Act.put, List.setIfInBounds_toArray, List.set_cons_zero, List.set_cons_succ]
            refine wpAnyH_done (by kernel_rfl) ?_ _
            go_wp2_with fail
            go_roundw
            case rel => exact ⟨m + 1, by omega, by go_num, by rw [HSM.out]; rfl, (HKR2.out).drewN _⟩
            case measure => simp [intOf]; omega
        · obtain rfl : m = H.length := by omega
          have hz : ¬ ((H.length : Int) < (H.length : Int)) := by omega
          rw [List.take_length]
          have c1 := C1.out _ HKR2.out
          have c3 := lt_of_cell c1
          have hzl : L.length ≤ Zs.length := by rw [← HZS.out, uRes_ok HU0.out, uArgs_len]; omega
          have hal : L.length ≤ As.length := Nat.le_of_eq HBF.out.2.2.1.symm
          cases hb : hasB H sn with
          | false =>
            rw [hb] at c1
            go_wp2_with fail
            refine wp_region_held_drew (S := fun w' => w'.cell? ⟨kb1, ko + n, none⟩ = some (.bool false)) (by kernel_rfl) (by exact c1) (fun hHeld0 => ?_)
            refine wpAnyH_take (i := 0) (oi := { dst := some 89, op := Op.move (Operand.tmp 10), type := 24, pos := "law.go:82", after := #[], guard := none }) (v := ?_) rfl (by kernel_rfl) (by kernel_rfl) (by kernel_rfl) (fun _ _ _ h => h) (Or.inl ⟨by rfl, ?_⟩) (by assumption) ?_
            rotate_left
            · (intro wz hSw; (try dsimp only at hSw); go_simp; first | done | with_reducible rfl)
            try simp only [Act.put, List.setIfInBounds_toArray, List.set_cons_zero, List.set_cons_succ]
            refine wpAnyH_take (i := 1) (oi := { dst := some 90, op := Op.move (Operand.tmp 13), type := 3, pos := "law.go:82", after := #[], guard := none }) (v := ?_) rfl (by kernel_rfl) (by kernel_rfl) (by kernel_rfl) (fun _ _ _ h => h) (Or.inl ⟨by rfl, ?_⟩) (by assumption) ?_
            rotate_left
            · (intro wz hSw; (try dsimp only at hSw); go_simp; first | done | with_reducible rfl)
            try simp only [Act.put, List.setIfInBounds_toArray, List.set_cons_zero, List.set_cons_succ]
            refine wpAnyH_take (i := 2) (oi := { dst := some 91, op := Op.indexAddr 24 (Operand.tmp 89) (Operand.tmp 90), type := 0, pos := "law.go:82", after := #[{ on := 0, ground := Ground.data }, { on := 1, ground := Ground.data }], guard := none }) (v := ?_) rfl (by kernel_rfl) (by kernel_rfl) (by kernel_rfl) (fun _ _ _ h => h) (Or.inl ⟨by rfl, ?_⟩) (by assumption) ?_
            rotate_left
            · (intro wz hSw; (try dsimp only at hSw); go_simp; first | done | with_reducible rfl)
            try simp only [Act.put, List.setIfInBounds_toArray, List.set_cons_zero, List.set_cons_succ]
            refine wpAnyH_take (i := 3) (oi := { dst := some 92, op := Op.load 4 (Operand.tmp 91), type := 4, pos := "law.go:82", after := #[{ on := 2, ground := Ground.data }], guard := none }) (v := ?_) rfl (by kernel_rfl) (by kernel_rfl) (by kernel_rfl) (fun _ _ _ h => h) (Or.inl ⟨by rfl, ?_⟩) (by assumption) ?_
            rotate_left
            · (intro wz hSw; (try dsimp only at hSw); go_simp; first | done | with_reducible rfl)
            try simp only [Act.put, List.setIfInBounds_toArray, List.set_cons_zero, List.set_cons_succ]
            refine wpAnyH_take (i := 4) (oi := { dst := some 93, op := Op.move (Operand.tmp 14), type := 4, pos := "law.go:82", after := #[], guard := none }) (v := ?_) rfl (by kernel_rfl) (by kernel_rfl) (by kernel_rfl) (fun _ _ _ h => h) (Or.inl ⟨by rfl, ?_⟩) (by assumption) ?_
            rotate_left
            · (intro wz hSw; (try dsimp only at hSw); go_simp; first | done | with_reducible rfl)
            try simp only [Act.put, List.setIfInBounds_toArray, List.set_cons_zero, List.set_cons_succ]
            refine wpAnyH_take (i := 5) (oi := { dst := some 94, op := Op.binOp BinOp.neq 4 (Operand.tmp 92) (Operand.tmp 93) 4, type := 4, pos := "law.go:82", after := #[{ on := 3, ground := Ground.data }, { on := 4, ground := Ground.data }], guard := none }) (v := ?_) rfl (by kernel_rfl) (by kernel_rfl) (by kernel_rfl) (fun _ _ _ h => h) (Or.inl ⟨by rfl, ?_⟩) (by assumption) ?_
            rotate_left
            · (intro wz hSw; (try dsimp only at hSw); go_simp; first | done | with_reducible rfl)
            try simp only [Act.put, List.setIfInBounds_toArray, List.set_cons_zero, List.set_cons_succ]
            refine wpAnyH_take (i := 6) (oi := { dst := some 95, op := Op.move (Operand.tmp 94), type := 4, pos := "law.go:82", after := #[{ on := 5, ground := Ground.data }], guard := none }) (v := ?_) rfl (by kernel_rfl) (by kernel_rfl) (by kernel_rfl) (fun _ _ _ h => h) (Or.inl ⟨by rfl, ?_⟩) (by assumption) ?_
            rotate_left
            · (intro wz hSw; (try dsimp only at hSw); go_simp; first | done | with_reducible rfl)
            try simp only [Act.put, List.setIfInBounds_toArray, List.set_cons_zero, List.set_cons_succ]
            refine wpAnyH_take (i := 7) (oi := { dst := some 96, op := Op.move (Operand.tmp 14), type := 4, pos := "law.go:82", after := #[{ on := 6, ground := Ground.guard }], guard := some (6, false) }) (v := ?_) rfl (by kernel_rfl) (by kernel_rfl) (by kernel_rfl) (fun _ _ _ h => h) (Or.inl ⟨by rfl, ?_⟩) (by assumption) ?_
            rotate_left
            · (intro wz hSw; (try dsimp only at hSw); go_simp; first | done | with_reducible rfl)
            try simp only [Act.put, List.setIfInBounds_toArray, List.set_cons_zero, List.set_cons_succ]
            refine wpAnyH_take (i := 8) (oi := { dst := some 97, op := Op.move (Operand.tmp 96), type := 4, pos := "law.go:82", after := #[{ on := 7, ground := Ground.data }, { on := 6, ground := Ground.chain }, { on := 6, ground := Ground.guard }], guard := some (6, false) }) (v := ?_) rfl (by kernel_rfl) (by kernel_rfl) (by kernel_rfl) (fun _ _ _ h => h) (Or.inl ⟨by rfl, ?_⟩) (by assumption) ?_
            rotate_left
            · (intro wz hSw; (try dsimp only at hSw); go_simp; first | done | with_reducible rfl)
            try simp only [Act.put, List.setIfInBounds_toArray, List.set_cons_zero, List.set_cons_succ]
            refine wpAnyH_take (i := 9) (oi := { dst := some 98, op := Op.move (Operand.tmp 9), type := 23, pos := "law.go:82", after := #[{ on := 8, ground := Ground.guard }], guard := some (8, true) }) (v := undef) rfl (by kernel_rfl) (by kernel_rfl) (by kernel_rfl) (fun _ _ _ h => h) (Or.inr ⟨by rfl, rfl⟩) (by assumption) ?_
            try simp only [Act.put, List.setIfInBounds_toArray, List.set_cons_zero, List.set_cons_succ]
            refine wpAnyH_take (i := 10) (oi := { dst := some 99, op := Op.move (Operand.tmp 13), type := 3, pos := "law.go:82", after := #[{ on := 8, ground := Ground.guard }], guard := some (8, true) }) (v := undef) rfl (by kernel_rfl) (by kernel_rfl) (by kernel_rfl) (fun _ _ _ h => h) (Or.inr ⟨by rfl, rfl⟩) (by assumption) ?_
            try simp only [Act.put, List.setIfInBounds_toArray, List.set_cons_zero, List.set_cons_succ]
            refine wpAnyH_take (i := 11) (oi := { dst := some 100, op := Op.indexAddr 23 (Operand.tmp 98) (Operand.tmp 99), type := 0, pos := "law.go:82", after := #[{ on := 9, ground := Ground.data }, { on := 10, ground := Ground.data }, { on := 8, ground := Ground.guard }], guard := some (8, true) }) (v := undef) rfl (by kernel_rfl) (by kernel_rfl) (by kernel_rfl) (fun _ _ _ h => h) (Or.inr ⟨by rfl, rfl⟩) (by assumption) ?_
            try simp only [Act.put, List.setIfInBounds_toArray, List.set_cons_zero, List.set_cons_succ]
            refine wpAnyH_take (i := 12) (oi := { dst := some 101, op := Op.load 42 (Operand.tmp 100), type := 42, pos := "law.go:82", after := #[{ on := 11, ground := Ground.data }, { on := 8, ground := Ground.guard }], guard := some (8, true) }) (v := undef) rfl (by kernel_rfl) (by kernel_rfl) (by kernel_rfl) (fun _ _ _ h => h) (Or.inr ⟨by rfl, rfl⟩) (by assumption) ?_
            try simp only [Act.put, List.setIfInBounds_toArray, List.set_cons_zero, List.set_cons_succ]
            refine wpAnyH_take (i := 13) (oi := { dst := some 102, op := Op.move (Operand.tmp 2), type := 23, pos := "law.go:82", after := #[{ on := 8, ground := Ground.guard }], guard := some (8, true) }) (v := undef) rfl (by kernel_rfl) (by kernel_rfl) (by kernel_rfl) (fun _ _ _ h => h) (Or.inr ⟨by rfl, rfl⟩) (by assumption) ?_
            try simp only [Act.put, List.setIfInBounds_toArray, List.set_cons_zero, List.set_cons_succ]
            refine wpAnyH_take (i := 14) (oi := { dst := some 103, op := Op.move (Operand.tmp 13), type := 3, pos := "law.go:82", after := #[{ on := 8, ground := Ground.guard }], guard := some (8, true) }) (v := undef) rfl (by kernel_rfl) (by kernel_rfl) (by kernel_rfl) (fun _ _ _ h => h) (Or.inr ⟨by rfl, rfl⟩) (by assumption) ?_
            try simp only [Act.put, List.setIfInBounds_toArray, List.set_cons_zero, List.set_cons_succ]
            refine wpAnyH_take (i := 15) (oi := { dst := some 104, op := Op.indexAddr 23 (Operand.tmp 102) (Operand.tmp 103), type := 0, pos := "law.go:82", after := #[{ on := 13, ground := Ground.data }, { on := 14, ground := Ground.data }, { on := 8, ground := Ground.guard }], guard := some (8, true) }) (v := undef) rfl (by kernel_rfl) (by kernel_rfl) (by kernel_rfl) (fun _ _ _ h => h) (Or.inr ⟨by rfl, rfl⟩) (by assumption) ?_
            try simp only [Act.put, List.setIfInBounds_toArray, List.set_cons_zero, List.set_cons_succ]
            refine wpAnyH_take (i := 16) (oi := { dst := some 105, op := Op.load 42 (Operand.tmp 104), type := 42, pos := "law.go:82", after := #[{ on := 15, ground := Ground.data }, { on := 8, ground := Ground.guard }], guard := some (8, true) }) (v := undef) rfl (by kernel_rfl) (by kernel_rfl) (by kernel_rfl) (fun _ _ _ h => h) (Or.inr ⟨by rfl, rfl⟩) (by assumption) ?_
            try simp only [Act.put, List.setIfInBounds_toArray, List.set_cons_zero, List.set_cons_succ]
            refine wpAnyH_take (i := 17) (oi := { dst := some 106, op := Op.call { callee := Callee.value (Operand.func 20), args := #[Operand.tmp 101, Operand.tmp 105], argTypes := #[42, 42] }, type := 4, pos := "law.go:82", after := #[{ on := 12, ground := Ground.data }, { on := 16, ground := Ground.data }, { on := 8, ground := Ground.chain }, { on := 8, ground := Ground.guard }], guard := some (8, true) }) (v := undef) rfl (by kernel_rfl) (by kernel_rfl) (by kernel_rfl) (fun _ _ _ h => h) (Or.inr ⟨by rfl, rfl⟩) (by assumption) ?_
            try simp only [Act.put, List.setIfInBounds_toArray, List.set_cons_zero, List.set_cons_succ]
            refine wpAnyH_take (i := 18) (oi := { dst := some 107, op := Op.unOp UnOp.not 4 (Operand.tmp 106), type := 4, pos := "law.go:82", after := #[{ on := 17, ground := Ground.data }, { on := 8, ground := Ground.guard }], guard := some (8, true) }) (v := undef) rfl (by kernel_rfl) (by kernel_rfl) (by kernel_rfl) (fun _ _ _ h => h) (Or.inr ⟨by rfl, rfl⟩) (by assumption) ?_
            try simp only [Act.put, List.setIfInBounds_toArray, List.set_cons_zero, List.set_cons_succ]
            refine wpAnyH_take (i := 19) (oi := { dst := some 108, op := Op.pick (Operand.tmp 97) (Operand.tmp 107) (Operand.const (Value.bool false)), type := 4, pos := "law.go:82", after := #[{ on := 8, ground := Ground.data }, { on := 18, ground := Ground.data }, { on := 6, ground := Ground.guard }], guard := some (6, false) }) (v := ?_) rfl (by kernel_rfl) (by kernel_rfl) (by kernel_rfl) (fun _ _ _ h => h) (Or.inl ⟨by rfl, ?_⟩) (by assumption) ?_
            rotate_left
            · (intro wz hSw; (try dsimp only at hSw); go_simp; first | done | with_reducible rfl)
            try simp only [Act.put, List.setIfInBounds_toArray, List.set_cons_zero, List.set_cons_succ]
            refine wpAnyH_take (i := 20) (oi := { dst := some 109, op := Op.pick (Operand.tmp 95) (Operand.const (Value.bool true)) (Operand.tmp 108), type := 4, pos := "law.go:82", after := #[{ on := 6, ground := Ground.data }, { on := 19, ground := Ground.data }], guard := none }) (v := ?_) rfl (by kernel_rfl) (by kernel_rfl) (by kernel_rfl) (fun _ _ _ h => h) (Or.inl ⟨by rfl, ?_⟩) (by assumption) ?_
            rotate_left
            · (intro wz hSw; (try dsimp only at hSw); go_simp; first | done | with_reducible rfl)
            try simp only [Act.put, List.setIfInBounds_toArray, List.set_cons_zero, List.set_cons_succ]
            refine wpAnyH_done (by kernel_rfl) ?_ _
            go_wp2_with fail
            go_roundw
            case rel => exact ⟨n + 1, by omega, by go_num, (HKR2.out).drew⟩
            case measure => simp [intOf]; omega
          | true =>
            rw [hb] at c1
            obtain ⟨Z, hZ⟩ : ∃ Z, σ sn = some Z := Option.isSome_iff_exists.1 (by rw [HTH.out.1, HH.out, hb])
            have hz1 : Zs[n]? = some Z := by
              have := HKB.out.2
              rw [HZS.out, hZ] at this
              exact this
            have hz2 := HTH.out.2 Z hZ
            have j3 : (n : Int) < As.length := by omega
            obtain ⟨lb, lo, hla, hlr⟩ := HL6.out.1.at (by omega)
            obtain ⟨ab, ao, haa, har⟩ := HAL.out.1.at (by omega)
            have xx : ∀ j v, (KR n).cells[j]? = some v → wr.cell? ⟨lb, lo + n * 6 + j, none⟩ = some v := fun j v hv => rangeAt_mono (hlr n (by omega)) (J67.out.trans HKR2.out) j v hv
            have yy : ∀ j v, (K n).cells[j]? = some v → wr.cell? ⟨ab, ao + n * 6 + j, none⟩ = some v := fun j v hv => rangeAt_mono (har n (by omega)) (K7.out.trans HKR2.out) j v hv
            have x0 : wr.cell? ⟨lb, lo + n * 6, none⟩ = some (.int .i64 (KR n).k) := xx 0 _ rfl
            have x1 : wr.cell? ⟨lb, lo + n * 6 + 1, none⟩ = some (.string (KR n).nm) := xx 1 _ rfl
            have x2 : wr.cell? ⟨lb, lo + n * 6 + 2, none⟩ = some (.int .i64 (KR n).con) := xx 2 _ rfl
            have x3 : wr.cell? ⟨lb, lo + n * 6 + 3, none⟩ = some (.slice (KR n).fa (KR n).fl (KR n).fc) := xx 3 _ rfl
            have x4 : wr.cell? ⟨lb, lo + n * 6 + 4, none⟩ = some (.slice (KR n).la (KR n).ll (KR n).lc) := xx 4 _ rfl
            have x5 : wr.cell? ⟨lb, lo + n * 6 + 5, none⟩ = some (.slice (KR n).ra (KR n).rl (KR n).rc) := xx 5 _ rfl
            have y0 : wr.cell? ⟨ab, ao + n * 6, none⟩ = some (.int .i64 (K n).k) := yy 0 _ rfl
            have y1 : wr.cell? ⟨ab, ao + n * 6 + 1, none⟩ = some (.string (K n).nm) := yy 1 _ rfl
            have y2 : wr.cell? ⟨ab, ao + n * 6 + 2, none⟩ = some (.int .i64 (K n).con) := yy 2 _ rfl
            have y3 : wr.cell? ⟨ab, ao + n * 6 + 3, none⟩ = some (.slice (K n).fa (K n).fl (K n).fc) := yy 3 _ rfl
            have y4 : wr.cell? ⟨ab, ao + n * 6 + 4, none⟩ = some (.slice (K n).la (K n).ll (K n).lc) := yy 4 _ rfl
            have y5 : wr.cell? ⟨ab, ao + n * 6 + 5, none⟩ = some (.slice (K n).ra (K n).rl (K n).rc) := yy 5 _ rfl
            have CX := Lib.hid (same_any 9 Ra Z (KR n) (K n) wr.drew (.inl (HFINE.out sn Z hZ).2) ((HL6.out.2 n Z hz1).keep (J67.out.trans HKR2.out).drew) ((HAL.out.2 n Z hz2).keep (K7.out.trans HKR2.out).drew))
            subst hla
            subst haa
            clear xx yy hlr har hz1 hz2 hZ
            go_wp2_with fail
            go_region_held3 (fun w' => w'.cell? ⟨kb1, ko + n, none⟩ = some (.bool true) ∧ w'.cell? ⟨lb, lo + n * 6, none⟩ = some (.int .i64 (KR n).k) ∧ w'.cell? ⟨lb, lo + n * 6 + 1, none⟩ = some (.string (KR n).nm) ∧ w'.cell? ⟨lb, lo + n * 6 + 2, none⟩ = some (.int .i64 (KR n).con) ∧ w'.cell? ⟨lb, lo + n * 6 + 3, none⟩ = some (.slice (KR n).fa (KR n).fl (KR n).fc) ∧ w'.cell? ⟨lb, lo + n * 6 + 4, none⟩ = some (.slice (KR n).la (KR n).ll (KR n).lc) ∧ w'.cell? ⟨lb, lo + n * 6 + 5, none⟩ = some (.slice (KR n).ra (KR n).rl (KR n).rc) ∧ w'.cell? ⟨ab, ao + n * 6, none⟩ = some (.int .i64 (K n).k) ∧ w'.cell? ⟨ab, ao + n * 6 + 1, none⟩ = some (.string (K n).nm) ∧ w'.cell? ⟨ab, ao + n * 6 + 2, none⟩ = some (.int .i64 (K n).con) ∧ w'.cell? ⟨ab, ao + n * 6 + 3, none⟩ = some (.slice (K n).fa (K n).fl (K n).fc) ∧ w'.cell? ⟨ab, ao + n * 6 + 4, none⟩ = some (.slice (K n).la (K n).ll (K n).lc) ∧ w'.cell? ⟨ab, ao + n * 6 + 5, none⟩ = some (.slice (K n).ra (K n).rl (K n).rc))
              (first | exact ⟨c1, x0, x1, x2, x3, x4, x5, y0, y1, y2, y3, y4, y5⟩ | exact ⟨hk8.cellv c1, hk8.cellv x0, hk8.cellv x1, hk8.cellv x2, hk8.cellv x3, hk8.cellv x4, hk8.cellv x5, hk8.cellv y0, hk8.cellv y1, hk8.cellv y2, hk8.cellv y3, hk8.cellv y4, hk8.cellv y5⟩)
              ((first | (go_at_call 20; (with_reducible refine CX.out.mono ?_); rintro e w8 ⟨rfl, hk8⟩)))
            go_wp2_with fail
            go_roundw
            case rel => exact ⟨n + 1, by omega, by go_num, (HKR2.out.drew).trans hk8⟩
            case measure => simp [intOf]; omega
    · obtain rfl : n = L.length := by omega
      have hz : ¬ ((L.length : Int) < (L.length : Int)) := by omega
      go_wp2_with fail
      go_ret
      exact ⟨rfl, K7.out.trans HKR.out⟩
theorem law_UnifyBack (R : Nat) (T : Ty) (h : Hd) (L : List ByteArray) (na : Option Addr) (nc : Nat) (Ra : Nat) (As : List Ty) (aa : Option Addr) (ac : Nat) (K : Nat → Hd) (w : World) (hl : Lies w A0 R T h)
    (ht : tab w A0 9 na L.length nc 1 (fun i => [.string (L.getD i ByteArray.empty)])) (hlc : L.length ≤ nc) (hL : ∀ s, s ∈ L → s.size ≤ 140737488351232) (hlL : L.length * 16 ≤ 140737488351232)
    (hA : LiesAll w A0 Ra As aa ac K) (hlA : As.length * 104 ≤ 140737488351232) :
    Calls Try.prog 6 #[h.val, .slice na L.length nc, .slice aa As.length ac] w fun e w' => e = .returned (.bool true) ∧ Kp w w' := by
  by_cases h0 : subE T L As = 0
  · exact back_yes T h L na nc Ra As aa ac K w (lies_look (back_facts h0).1 hl) ht hlc hL hlL hA hlA h0
  · exact back_no R T h L na nc Ra As aa ac K w hl ht hlc hL hlL hA hlA h0
end Go.Proofs.Ytfjflfokmihcpaa
