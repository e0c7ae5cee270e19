/- The walk of HeapReach. Condition: the arguments lie in memory; the roots are of no more than 2 to the 20 numbers. -/
import Derived.Test.YtkaeigklhdpifaaB3
import Derived.Test.YtkaeigklhdpifaaP1
import Derived.Deep.RegionHeld3
import Derived.OrdersHeld
namespace Go.Proofs.Ytkaeigklhdpifaa
open Go.RowKit Go.Maps Go.Sort
set_option linter.unusedVariables false
set_option linter.unusedSimpArgs false
theorem hasLm {l : List Int} {k : Int} : hasL l k = true ↔ k ∈ l := by
  unfold hasL
  rw [List.any_eq_true]
  constructor
  · rintro ⟨x, hx, e⟩
    have : x = k := by simpa using e
    rw [← this]; exact hx
  · intro h
    exact ⟨k, h, by simp⟩
theorem flatZ {l : List Int} {C : Nat → List Value} (h : ∀ i x, l[i]? = some x → C i = [.int .i64 x]) : flat C l.length = l.map encZ := by
  have h1 : flat C l.length = flat (oneC (l.map encZ)) l.length := flat_congr (fun i hi => by
    rw [h i _ (List.getElem?_eq_getElem hi)]
    unfold oneC
    rw [List.getElem?_map, List.getElem?_eq_getElem hi]
    rfl)
  rw [h1, oneC_flat _ _ (by simp), List.take_of_length_le (by simp)]
theorem step_want {P : Program} {ops : Array Oper} {o : Oper} {a : Act} {w : World} {K : Act → World → Prop} {Q : Exit → Act → World → Prop} {E : Prop} (hw : Region.wanted o (yielded ops a.tmps) = true) (h : o.wp P a w K Q) : if Region.wanted o (yielded ops a.tmps) = true then Oper.wp P o a w K Q else E := by
  rw [if_pos hw]
  exact h
/-- A row's table, and what stands in it. -/
theorem il_tab {w : World} {B : Sel} {l : List Int} {v : Value} (h : IL w B l v) : ∃ a c C, v = .slice a l.length c ∧ tab w B 3 a l.length c 1 C ∧ (∀ i, (C i).length = 1) ∧ (∀ i, ∀ u ∈ C i, u.oneCell' = true) ∧ flat C l.length = l.map encZ ∧ (∀ x ∈ l, i64 x) ∧ l.length ≤ 17592186043904 := by
  have hn := h
  obtain ⟨a, c, C, rfl, hlc, hby, hC, htab, hx⟩ := h
  refine ⟨a, c, C, rfl, htab, fun i => (hC i).1, fun i => (hC i).2, flatZ (fun i x hi => (hx i x hi).1), fun x hm => ?_, (RL.len hn).2⟩
  obtain ⟨i, hi⟩ := List.mem_iff_getElem?.1 hm
  exact (hx i x hi).2
set_option maxHeartbeats 1000000 in
set_option maxRecDepth 100000 in
theorem c_intsO (l : List Int) (v : Value) (B : Sel) (w : World) (h : IL w B l v) :
    Calls Try.prog 19 #[v] w fun e w' => ∃ a c, e = .returned (.slice a l.length c) ∧ w'.ownsRow w.heap.size 3 1 (.slice a l.length c) l.length (l.map encZ) ∧ Kp w w' := by
  obtain ⟨iI, hI, hI0, hI1, hI2⟩ := info_parts infoI
  obtain ⟨a, c, C, rfl, htab, hC, h1, hf, h64, hll⟩ := il_tab h
  have HT := Lib.hid htab
  have HF := Lib.hid hf
  have HCl := Lib.hid hC
  have HC1 := Lib.hid h1
  clear h htab hf hC h1 h64
  go_enter Try.func19, Try.ntmps19
  go_wp2_with ((with_reducible show wpList _ _ _ (⟨some 5, _, _, _, _, _⟩ :: _) _ _); refine wpList_append_tab (d := 5) _ _ 33 rfl w.heap.size 3 iI _ 1 8 Try.underlying33 hI hI0 hI1 hI2 rfl (by decide) (.slice (some ⟨w.heap.size, 0, none⟩) 0 0) 0 [] (by rfl) (empty_own (heap_at rfl) (Nat.le_refl _)) w B a l.length c C (by rfl) HT.out ((Kp.refl w).alloc _) HCl.out HC1.out (by unfold maxLen; omega) (by omega) (by simp) ?_; intro v' w' ho hg; rw [Nat.zero_add, List.nil_append, HF.out] at ho; obtain ⟨a', c', rfl⟩ := own_slice ho; have HO := Lib.hid ho; have HG := Lib.hid hg; clear ho hg)
  go_ret
  exact ⟨_, _, rfl, HO.out, ((Kp.refl w).alloc _).grown HG.out (fun k hk => by cases hk; exact Nat.le_refl _)⟩
theorem lt_sub {a b k : Nat} (h : ¬ k < a) (h2 : k < a + b) : k - a < b := by omega
set_option maxHeartbeats 4000000 in
set_option maxRecDepth 100000 in
theorem law_HeapReach (cells : Int) (l : List Ac) (v : Value) (ra : List Int) (va : Value) (rb : List Int) (vb : Value) (w : World) (hc : i64 cells) (hl : AL w A0 l v) (ha : IL w A0 ra va) (hb : IL w A0 rb vb) (_ : l.length ≤ 1048576) (za : ra.length ≤ 1048576) (zb : rb.length ≤ 1048576) :
    Calls Try.prog 6 #[.int .i64 cells, v, va, vb] w fun e w' => e = .returned (.bool true) ∧ Kp w w' := by
  obtain ⟨a, c, rfl, hll⟩ := hl.shape (by decide)
  obtain ⟨iI, hI, hI0, hI1, hI2⟩ := info_parts infoI
  have h64 : ∀ x ∈ ra ++ rb, i64 x := fun x hx => by
    obtain ⟨_, _, _, _, _, _, _, _, h1, _⟩ := il_tab ha
    obtain ⟨_, _, _, _, _, _, _, _, h2, _⟩ := il_tab hb
    rcases List.mem_append.1 hx with h | h
    · exact h1 x h
    · exact h2 x h
  have H64 := Lib.hid h64
  have HA := Lib.hid (RL.below goodI ha (Nat.le_refl _))
  have HBb := Lib.hid (RL.below goodI hb (Nat.le_refl _))
  obtain ⟨aa, ca, rfl⟩ := ha.sl
  obtain ⟨ab, cb, Cb, hvb, htb, hCb, hCb1, hfb, _, _⟩ := il_tab hb
  subst hvb
  have HTB := Lib.hid htb
  have HCB := Lib.hid hCb
  have HCB1 := Lib.hid hCb1
  have HFB := Lib.hid hfb
  have HL := Lib.hid hl
  have HC := Lib.hid hc
  clear hl hc ha hb h64 htb hCb hCb1 hfb
  go_enter Try.func6, Try.ntmps6
  go_upto_region 4 with (first
    | (go_at_call 16; (with_reducible refine (c_grown cells l _ w HL.out HC.out).mono ?_); rintro e w1 ⟨p, q, bud, S, N, M, rfl, hg⟩; have G1 := Lib.hid hg; clear hg)
    | (go_at_call 12; (with_reducible refine (c_answers w1).mono ?_); rintro e w2 ⟨rfl, hk⟩; have G := Lib.hid (G1.out.keep hk); clear hk))
  have HB := Lib.hid G.out.bo
  obtain ⟨x, e, hxe⟩ : ∃ x e, reachP S ra = (x, e) := ⟨_, _, rfl⟩
  obtain ⟨y, f, hyf⟩ : ∃ y f, reachP S rb = (y, f) := ⟨_, _, rfl⟩
  obtain ⟨z, g, hzg⟩ : ∃ z g, reachP S (ra ++ rb) = (z, g) := ⟨_, _, rfl⟩
  have HX := Lib.hid hxe
  have HY := Lib.hid hyf
  have HZ := Lib.hid hzg
  clear hxe hyf hzg
  go_upto_region 7 with (first
    | (go_at_call 19; (with_reducible refine (c_ints ra _ _ w2 (HA.out.keep goodI G.out.kp)).mono ?_); rintro e w3 ⟨u3, rfl, g1, g2⟩; obtain ⟨a3, c3, rfl⟩ := g1.sl; have I3 := Lib.hid g1; have K3 := Lib.hid g2; clear g1 g2)
    | (go_at_call 26; (with_reducible refine (c_Reach ra _ _ w3 (HB.out.hp.keep K3.out) HB.out.ok I3.out).mono ?_); rintro e w4 ⟨u4, rfl, g1, g2⟩; rw [HX.out] at g1 ⊢; obtain ⟨a4, c4, rfl⟩ := g1.sl; have I4 := Lib.hid g1; have K4 := Lib.hid (K3.out.trans g2); clear g1 g2)
    | (go_at_call 19; (with_reducible refine (c_ints rb _ _ w4 (HBb.out.keep goodI (G.out.kp.trans K4.out))).mono ?_); rintro e w5 ⟨u5, rfl, g1, g2⟩; obtain ⟨a5, c5, rfl⟩ := g1.sl; have I5 := Lib.hid g1; have K5 := Lib.hid (K4.out.trans g2); have I4 := Lib.hid (I4.out.keep goodI g2); clear g1 g2)
    | (go_at_call 26; (with_reducible refine (c_Reach rb _ _ w5 (HB.out.hp.keep K5.out) HB.out.ok I5.out).mono ?_); rintro e w6 ⟨u6, rfl, g1, g2⟩; rw [HY.out] at g1 ⊢; obtain ⟨a6, c6, rfl⟩ := g1.sl; have I6 := Lib.hid g1; have K6 := Lib.hid (K5.out.trans g2); have I4 := Lib.hid (I4.out.keep goodI g2); clear g1 g2)
    | (go_at_call 19; (with_reducible refine (c_intsO ra _ _ w6 (HA.out.keep goodI (G.out.kp.trans K6.out))).mono ?_); rintro e w7 ⟨a7, c7, rfl, g1, g2⟩; have O7 := Lib.hid g1; have K67 := Lib.hid g2; have K7 := Lib.hid (K6.out.trans g2); clear g1 g2)
    | ((with_reducible show wpList _ _ _ (⟨some 52, _, _, _, _, _⟩ :: _) _ _); refine wpList_append_tab (d := 52) _ _ 33 rfl w6.heap.size 3 iI _ 1 8 Try.underlying33 hI hI0 hI1 hI2 rfl (by decide) (.slice a7 ra.length c7) ra.length (ra.map encZ) (by rfl) O7.out w A0 ab rb.length cb Cb (by rfl) HTB.out (G.out.kp.trans K7.out) HCB.out HCB1.out (by unfold maxLen; omega) (by omega) K67.out.sz ?_; intro v8 w8 ho hg; rw [HFB.out, ← List.map_append, ← List.length_append] at ho; obtain ⟨a8, c8, rfl⟩ := own_slice ho; have i8 := il_of_own ho H64.out (by simp; omega); rw [List.length_append] at i8; have I8 := Lib.hid i8; clear i8; have K68 := Lib.hid (K67.out.grown hg (fun j hj => (O7.out.lt j hj).1)); have K8 := Lib.hid (K6.out.trans K68.out); clear ho hg)
    | (go_at_call 26; (with_reducible refine (c_Reach (ra ++ rb) _ _ w8 (HB.out.hp.keep K8.out) HB.out.ok I8.out).mono ?_); rintro e w9 ⟨u9, rfl, g1, g2⟩; rw [HZ.out] at g1 ⊢; obtain ⟨a9, c9, rfl⟩ := g1.sl; have I9 := Lib.hid g1; have K9 := Lib.hid (K8.out.trans g2); have I4 := Lib.hid (I4.out.keep goodI (K68.out.trans g2)); have I6 := Lib.hid (I6.out.keep goodI (K68.out.trans g2)); clear g1 g2))
  have HK := Lib.hid (G.out.kp.trans K9.out)
  have hxe := HX.out
  have hyf := HY.out
  have hzg := HZ.out
  cases hka : knownR S ra with
  | false =>
    rw [reachP_unknown hka] at hxe
    rw [reachP_unknown (by rw [knownR_append, hka]; rfl)] at hzg
    cases hxe
    cases hzg
    clear hyf hka
    go_wp2_with fail
    go_ret
    exact ⟨rfl, HK.out⟩
  | true =>
    cases hkb : knownR S rb with
    | false =>
      rw [reachP_known hka] at hxe
      rw [reachP_unknown hkb] at hyf
      rw [reachP_unknown (by rw [knownR_append, hka, hkb]; rfl)] at hzg
      cases hxe
      cases hyf
      cases hzg
      clear hka hkb
      go_wp2_with fail
      go_ret
      exact ⟨rfl, HK.out⟩
    | true =>
      rw [reachP_known hka] at hxe
      rw [reachP_known hkb] at hyf
      rw [reachP_known (by rw [knownR_append, hka, hkb]; rfl)] at hzg
      cases hxe
      cases hyf
      cases hzg
      clear hka hkb
      have hlx : (rl S ra).length ≤ 65536 := by rw [rl_len]; have := col_len_le S ra; have := HB.out.ok.len; omega
      have hly : (rl S rb).length ≤ 65536 := by rw [rl_len]; have := col_len_le S rb; have := HB.out.ok.len; omega
      have hlz : (rl S (ra ++ rb)).length ≤ 65536 := by rw [rl_len]; have := col_len_le S (ra ++ rb); have := HB.out.ok.len; omega
      have HRR := Lib.hid (show reachP S (rl S ra) = (rl S ra, 0) by rw [reachP_known (known_rl S ra), rl_rl])
      go_upto_region 12 with (first
        | (go_at_call 19; (with_reducible refine (c_ints (rl S ra) _ _ w9 I4.out).mono ?_); rintro e w10 ⟨u10, rfl, g1, g2⟩; obtain ⟨a10, c10, rfl⟩ := g1.sl; have I10 := Lib.hid g1; have K10 := Lib.hid g2; clear g1 g2)
        | (go_at_call 26; (with_reducible refine (c_Reach (rl S ra) _ _ w10 (HB.out.hp.keep (K9.out.trans K10.out)) HB.out.ok I10.out).mono ?_); rintro e w11 ⟨u11, rfl, g1, g2⟩; rw [HRR.out] at g1 ⊢; obtain ⟨a11, c11, rfl⟩ := g1.sl; have I11 := Lib.hid g1; have K11 := Lib.hid (K10.out.trans g2); clear g1 g2)
        | (go_at_call 25; (with_reducible refine (c_SameInts _ _ _ _ _ _ w11 I11.out (I4.out.keep goodI K11.out)).mono ?_); rintro e w12 ⟨rfl, g1⟩; rw [same_refl]; have K12 := Lib.hid (K11.out.trans g1); clear g1))
      go_wp2_with fail
      go_loopw [19] (fun iv wr => ∃ k : Nat, k ≤ (rl S (ra ++ rb)).length ∧ iv = .int .i64 (k : Int) ∧ Kp w12 wr) (fun iv _ => (rl S (ra ++ rb)).length - (intOf iv).toNat)
      case atStart => exact ⟨0, by omega, rfl, Kp.refl _⟩
      case round =>
        obtain ⟨k, hk, rfl, hkr⟩ := hrel
        have KR := Lib.hid (K12.out.trans hkr)
        have KQ := Lib.hid hkr
        by_cases hlt : k < (rl S (ra ++ rb)).length
        · obtain ⟨t, ht⟩ : ∃ t, (rl S (ra ++ rb))[k]? = some t := ⟨_, List.getElem?_eq_getElem hlt⟩
          obtain ⟨bz, qz, rfl, e0, eb, ht64⟩ := RL.at1 (I9.out.keep goodI KR.out) ht
          have hor := rch_or (rl_mem.1 (List.mem_of_getElem? ht))
          have IX := Lib.hid (I4.out.keep goodI KR.out)
          have IY := Lib.hid (I6.out.keep goodI KR.out)
          clear hkr
          cases hxt : hasL (rl S ra) t with
          | true =>
            have HXT := Lib.hid hxt
            have HYT := Lib.hid hxt
            clear hor hxt
            by_cases hk0 : k = 0
            · have hkz : decide ((0 : Int) < (k : Int)) = false := by rw [decide_eq_false_iff_not]; omega
              have hkz2 : decide (0 < k) = false := by rw [decide_eq_false_iff_not]; omega
              clear ht hk0
              go_upto_region 15 with fail
              refine wp_region_held_drew (S := fun w' => w'.cell? ⟨bz, qz + k, none⟩ = some (.int .i64 t)) (by kernel_rfl) ((Kp.refl wr).drew.cellv e0) (fun hHeld0 => ?_)
              refine wpAnyH_take (i := 0) (oi := { dst := some 89, op := Op.move (Operand.tmp 11), type := 33, pos := "law.go:196", after := #[], guard := none }) (v := ?_) rfl (by kernel_rfl) (by kernel_rfl) (by kernel_rfl) (fun _ _ _ h => h) (Or.inl ⟨by rfl, ?_⟩) (by assumption) ?_
              rotate_left
              · (intro wz hSw; (try dsimp only at hSw); go_simp; first | done | with_reducible rfl)
              try simp only [Act.put, List.setIfInBounds_toArray, List.set_cons_zero, List.set_cons_succ]
              refine wpAnyH_take (i := 1) (oi := { dst := some 90, op := Op.move (Operand.tmp 15), type := 33, pos := "law.go:196", after := #[], guard := none }) (v := ?_) rfl (by kernel_rfl) (by kernel_rfl) (by kernel_rfl) (fun _ _ _ h => h) (Or.inl ⟨by rfl, ?_⟩) (by assumption) ?_
              rotate_left
              · (intro wz hSw; (try dsimp only at hSw); go_simp; first | done | with_reducible rfl)
              try simp only [Act.put, List.setIfInBounds_toArray, List.set_cons_zero, List.set_cons_succ]
              refine wpAnyH_take (i := 2) (oi := { dst := some 91, op := Op.move (Operand.tmp 19), type := 3, pos := "law.go:196", after := #[], guard := none }) (v := ?_) rfl (by kernel_rfl) (by kernel_rfl) (by kernel_rfl) (fun _ _ _ h => h) (Or.inl ⟨by rfl, ?_⟩) (by assumption) ?_
              rotate_left
              · (intro wz hSw; (try dsimp only at hSw); go_simp; first | done | with_reducible rfl)
              try simp only [Act.put, List.setIfInBounds_toArray, List.set_cons_zero, List.set_cons_succ]
              refine wpAnyH_take (i := 3) (oi := { dst := some 92, op := Op.indexAddr 33 (Operand.tmp 90) (Operand.tmp 91), type := 0, pos := "law.go:196", after := #[{ on := 1, ground := Ground.data }, { on := 2, ground := Ground.data }], guard := none }) (v := ?_) rfl (by kernel_rfl) (by kernel_rfl) (by kernel_rfl) (fun _ _ _ h => h) (Or.inl ⟨by rfl, ?_⟩) (by assumption) ?_
              rotate_left
              · (intro wz hSw; (try dsimp only at hSw); go_simp; first | done | with_reducible rfl)
              try simp only [Act.put, List.setIfInBounds_toArray, List.set_cons_zero, List.set_cons_succ]
              refine wpAnyH_take (i := 4) (oi := { dst := some 93, op := Op.load 3 (Operand.tmp 92), type := 3, pos := "law.go:196", after := #[{ on := 3, ground := Ground.data }], guard := none }) (v := ?_) rfl (by kernel_rfl) (by kernel_rfl) (by kernel_rfl) (fun _ _ _ h => h) (Or.inl ⟨by rfl, ?_⟩) (by assumption) ?_
              rotate_left
              · (intro wz hSw; (try dsimp only at hSw); go_simp; first | done | with_reducible rfl)
              try simp only [Act.put, List.setIfInBounds_toArray, List.set_cons_zero, List.set_cons_succ]
              refine wpAnyH_ready (rs := [5]) (by kernel_rfl) (by simp) ?_
              refine AllReadyH.cons (o := { dst := some 94, op := Op.call { callee := Callee.value (Operand.func 27), args := #[Operand.tmp 89, Operand.tmp 93], argTypes := #[33, 3] }, type := 4, pos := "law.go:196", after := #[{ on := 0, ground := Ground.data }, { on := 4, ground := Ground.data }], guard := none }) rfl (fun Kw hKw => ?_) AllReadyH.nil
              refine step_go (by rfl) (step_call (f := 27) (by rfl) Try.func27 (by kernel_rfl) (by kernel_rfl) (by simp [Act.eval, Act.put]) ((c_has (rl S ra) (.slice a4 (rl S ra).length c4) _ t wr.drew (IX.out.keep goodI (Kp.refl wr).drew)).mono ?_))
              rintro e w' ⟨rfl, hw'⟩
              subst hw'
              refine ⟨_, rfl, ?_⟩
              rw [HXT.out]
              refine hKw.out _ _ ((Kp.refl wr).drew.cellv e0) (fun hHeld1 => ?_)
              clear hKw Kw hHeld0
              try simp only [Act.put, List.setIfInBounds_toArray, List.set_cons_zero, List.set_cons_succ]
              refine wpAnyH_take (i := 6) (oi := { dst := some 95, op := Op.unOp UnOp.not 4 (Operand.tmp 94), type := 4, pos := "law.go:196", after := #[{ on := 5, ground := Ground.data }], guard := none }) (v := ?_) rfl (by kernel_rfl) (by kernel_rfl) (by kernel_rfl) (fun _ _ _ h => h) (Or.inl ⟨by rfl, ?_⟩) (by assumption) ?_
              rotate_left
              · (intro wz hSw; (try dsimp only at hSw); go_simp; first | done | with_reducible rfl)
              try simp only [Act.put, List.setIfInBounds_toArray, List.set_cons_zero, List.set_cons_succ]
              refine wpAnyH_take (i := 7) (oi := { dst := some 96, op := Op.move (Operand.tmp 95), type := 4, pos := "law.go:196", after := #[{ on := 6, ground := Ground.data }, { on := 5, ground := Ground.chain }], guard := none }) (v := ?_) rfl (by kernel_rfl) (by kernel_rfl) (by kernel_rfl) (fun _ _ _ h => h) (Or.inl ⟨by rfl, ?_⟩) (by assumption) ?_
              rotate_left
              · (intro wz hSw; (try dsimp only at hSw); go_simp; first | done | with_reducible rfl)
              try simp only [Act.put, List.setIfInBounds_toArray, List.set_cons_zero, List.set_cons_succ]
              refine wpAnyH_take (i := 8) (oi := { dst := some 97, op := Op.move (Operand.tmp 13), type := 33, pos := "law.go:196", after := #[{ on := 7, ground := Ground.guard }], guard := some (7, true) }) (v := undef) rfl (by kernel_rfl) (by kernel_rfl) (by kernel_rfl) (fun _ _ _ h => h) (Or.inr ⟨by rfl, rfl⟩) (by assumption) ?_
              try simp only [Act.put, List.setIfInBounds_toArray, List.set_cons_zero, List.set_cons_succ]
              refine wpAnyH_take (i := 9) (oi := { dst := some 98, op := Op.move (Operand.tmp 15), type := 33, pos := "law.go:196", after := #[{ on := 7, ground := Ground.guard }], guard := some (7, true) }) (v := undef) rfl (by kernel_rfl) (by kernel_rfl) (by kernel_rfl) (fun _ _ _ h => h) (Or.inr ⟨by rfl, rfl⟩) (by assumption) ?_
              try simp only [Act.put, List.setIfInBounds_toArray, List.set_cons_zero, List.set_cons_succ]
              refine wpAnyH_take (i := 10) (oi := { dst := some 99, op := Op.move (Operand.tmp 19), type := 3, pos := "law.go:196", after := #[{ on := 7, ground := Ground.guard }], guard := some (7, true) }) (v := undef) rfl (by kernel_rfl) (by kernel_rfl) (by kernel_rfl) (fun _ _ _ h => h) (Or.inr ⟨by rfl, rfl⟩) (by assumption) ?_
              try simp only [Act.put, List.setIfInBounds_toArray, List.set_cons_zero, List.set_cons_succ]
              refine wpAnyH_take (i := 11) (oi := { dst := some 100, op := Op.indexAddr 33 (Operand.tmp 98) (Operand.tmp 99), type := 0, pos := "law.go:196", after := #[{ on := 9, ground := Ground.data }, { on := 10, ground := Ground.data }, { on := 7, ground := Ground.guard }], guard := some (7, true) }) (v := undef) rfl (by kernel_rfl) (by kernel_rfl) (by kernel_rfl) (fun _ _ _ h => h) (Or.inr ⟨by rfl, rfl⟩) (by assumption) ?_
              try simp only [Act.put, List.setIfInBounds_toArray, List.set_cons_zero, List.set_cons_succ]
              refine wpAnyH_take (i := 12) (oi := { dst := some 101, op := Op.load 3 (Operand.tmp 100), type := 3, pos := "law.go:196", after := #[{ on := 11, ground := Ground.data }, { on := 7, ground := Ground.guard }], guard := some (7, true) }) (v := undef) rfl (by kernel_rfl) (by kernel_rfl) (by kernel_rfl) (fun _ _ _ h => h) (Or.inr ⟨by rfl, rfl⟩) (by assumption) ?_
              try simp only [Act.put, List.setIfInBounds_toArray, List.set_cons_zero, List.set_cons_succ]
              refine wpAnyH_take (i := 13) (oi := { dst := some 102, op := Op.call { callee := Callee.value (Operand.func 27), args := #[Operand.tmp 97, Operand.tmp 101], argTypes := #[33, 3] }, type := 4, pos := "law.go:196", after := #[{ on := 8, ground := Ground.data }, { on := 12, ground := Ground.data }, { on := 7, ground := Ground.chain }, { on := 7, ground := Ground.guard }], guard := some (7, true) }) (v := undef) rfl (by kernel_rfl) (by kernel_rfl) (by kernel_rfl) (fun _ _ _ h => h) (Or.inr ⟨by rfl, rfl⟩) (by assumption) ?_
              try simp only [Act.put, List.setIfInBounds_toArray, List.set_cons_zero, List.set_cons_succ]
              refine wpAnyH_take (i := 14) (oi := { dst := some 103, op := Op.unOp UnOp.not 4 (Operand.tmp 102), type := 4, pos := "law.go:196", after := #[{ on := 13, ground := Ground.data }, { on := 7, ground := Ground.guard }], guard := some (7, true) }) (v := undef) rfl (by kernel_rfl) (by kernel_rfl) (by kernel_rfl) (fun _ _ _ h => h) (Or.inr ⟨by rfl, rfl⟩) (by assumption) ?_
              try simp only [Act.put, List.setIfInBounds_toArray, List.set_cons_zero, List.set_cons_succ]
              refine wpAnyH_take (i := 15) (oi := { dst := some 104, op := Op.pick (Operand.tmp 96) (Operand.tmp 103) (Operand.const (Value.bool false)), type := 4, pos := "law.go:196", after := #[{ on := 7, ground := Ground.data }, { on := 14, ground := Ground.data }], guard := none }) (v := ?_) rfl (by kernel_rfl) (by kernel_rfl) (by kernel_rfl) (fun _ _ _ h => h) (Or.inl ⟨by rfl, ?_⟩) (by assumption) ?_
              rotate_left
              · (intro wz hSw; (try dsimp only at hSw); go_simp; first | done | with_reducible rfl)
              try simp only [Act.put, List.setIfInBounds_toArray, List.set_cons_zero, List.set_cons_succ]
              refine wpAnyH_take (i := 16) (oi := { dst := some 105, op := Op.move (Operand.tmp 104), type := 4, pos := "law.go:196", after := #[{ on := 15, ground := Ground.data }, { on := 13, ground := Ground.chain }], guard := none }) (v := ?_) rfl (by kernel_rfl) (by kernel_rfl) (by kernel_rfl) (fun _ _ _ h => h) (Or.inl ⟨by rfl, ?_⟩) (by assumption) ?_
              rotate_left
              · (intro wz hSw; (try dsimp only at hSw); go_simp; first | done | with_reducible rfl)
              try simp only [Act.put, List.setIfInBounds_toArray, List.set_cons_zero, List.set_cons_succ]
              refine wpAnyH_take (i := 17) (oi := { dst := some 106, op := Op.move (Operand.tmp 19), type := 3, pos := "law.go:196", after := #[{ on := 16, ground := Ground.guard }], guard := some (16, false) }) (v := ?_) rfl (by kernel_rfl) (by kernel_rfl) (by kernel_rfl) (fun _ _ _ h => h) (Or.inl ⟨by rfl, ?_⟩) (by assumption) ?_
              rotate_left
              · (intro wz hSw; (try dsimp only at hSw); go_simp; first | done | with_reducible rfl)
              try simp only [Act.put, List.setIfInBounds_toArray, List.set_cons_zero, List.set_cons_succ]
              refine wpAnyH_take (i := 18) (oi := { dst := some 107, op := Op.binOp BinOp.gtr 3 (Operand.tmp 106) (Operand.const (Value.int IntKind.i64 0)) 3, type := 4, pos := "law.go:196", after := #[{ on := 17, ground := Ground.data }, { on := 16, ground := Ground.guard }], guard := some (16, false) }) (v := ?_) rfl (by kernel_rfl) (by kernel_rfl) (by kernel_rfl) (fun _ _ _ h => h) (Or.inl ⟨by rfl, ?_⟩) (by assumption) ?_
              rotate_left
              · (intro wz hSw; (try dsimp only at hSw); go_simp; first | done | with_reducible rfl)
              try simp only [Act.put, List.setIfInBounds_toArray, List.set_cons_zero, List.set_cons_succ]
              refine wpAnyH_take (i := 19) (oi := { dst := some 108, op := Op.move (Operand.tmp 107), type := 4, pos := "law.go:196", after := #[{ on := 18, ground := Ground.data }, { on := 16, ground := Ground.chain }, { on := 16, ground := Ground.guard }], guard := some (16, false) }) (v := ?_) rfl (by kernel_rfl) (by kernel_rfl) (by kernel_rfl) (fun _ _ _ h => h) (Or.inl ⟨by rfl, ?_⟩) (by assumption) ?_
              rotate_left
              · (intro wz hSw; (try dsimp only at hSw); go_simp; first | done | with_reducible rfl)
              try simp only [Act.put, List.setIfInBounds_toArray, List.set_cons_zero, List.set_cons_succ]
              refine wpAnyH_take (i := 20) (oi := { dst := some 109, op := Op.move (Operand.tmp 15), type := 33, pos := "law.go:196", after := #[{ on := 19, ground := Ground.guard }], guard := some (19, true) }) (v := undef) rfl (by kernel_rfl) (by kernel_rfl) (by kernel_rfl) (fun _ _ _ h => h) (Or.inr ⟨by rfl, rfl⟩) (by assumption) ?_
              try simp only [Act.put, List.setIfInBounds_toArray, List.set_cons_zero, List.set_cons_succ]
              refine wpAnyH_take (i := 21) (oi := { dst := some 110, op := Op.move (Operand.tmp 19), type := 3, pos := "law.go:196", after := #[{ on := 19, ground := Ground.guard }], guard := some (19, true) }) (v := undef) rfl (by kernel_rfl) (by kernel_rfl) (by kernel_rfl) (fun _ _ _ h => h) (Or.inr ⟨by rfl, rfl⟩) (by assumption) ?_
              try simp only [Act.put, List.setIfInBounds_toArray, List.set_cons_zero, List.set_cons_succ]
              refine wpAnyH_take (i := 22) (oi := { dst := some 111, op := Op.indexAddr 33 (Operand.tmp 109) (Operand.tmp 110), type := 0, pos := "law.go:196", after := #[{ on := 20, ground := Ground.data }, { on := 21, ground := Ground.data }, { on := 19, ground := Ground.guard }], guard := some (19, true) }) (v := undef) rfl (by kernel_rfl) (by kernel_rfl) (by kernel_rfl) (fun _ _ _ h => h) (Or.inr ⟨by rfl, rfl⟩) (by assumption) ?_
              try simp only [Act.put, List.setIfInBounds_toArray, List.set_cons_zero, List.set_cons_succ]
              refine wpAnyH_take (i := 23) (oi := { dst := some 112, op := Op.load 3 (Operand.tmp 111), type := 3, pos := "law.go:196", after := #[{ on := 22, ground := Ground.data }, { on := 19, ground := Ground.guard }], guard := some (19, true) }) (v := undef) rfl (by kernel_rfl) (by kernel_rfl) (by kernel_rfl) (fun _ _ _ h => h) (Or.inr ⟨by rfl, rfl⟩) (by assumption) ?_
              try simp only [Act.put, List.setIfInBounds_toArray, List.set_cons_zero, List.set_cons_succ]
              refine wpAnyH_take (i := 24) (oi := { dst := some 113, op := Op.move (Operand.tmp 15), type := 33, pos := "law.go:196", after := #[{ on := 19, ground := Ground.guard }], guard := some (19, true) }) (v := undef) rfl (by kernel_rfl) (by kernel_rfl) (by kernel_rfl) (fun _ _ _ h => h) (Or.inr ⟨by rfl, rfl⟩) (by assumption) ?_
              try simp only [Act.put, List.setIfInBounds_toArray, List.set_cons_zero, List.set_cons_succ]
              refine wpAnyH_take (i := 25) (oi := { dst := some 114, op := Op.move (Operand.tmp 19), type := 3, pos := "law.go:196", after := #[{ on := 19, ground := Ground.guard }], guard := some (19, true) }) (v := undef) rfl (by kernel_rfl) (by kernel_rfl) (by kernel_rfl) (fun _ _ _ h => h) (Or.inr ⟨by rfl, rfl⟩) (by assumption) ?_
              try simp only [Act.put, List.setIfInBounds_toArray, List.set_cons_zero, List.set_cons_succ]
              refine wpAnyH_take (i := 26) (oi := { dst := some 115, op := Op.binOp BinOp.sub 3 (Operand.tmp 114) (Operand.const (Value.int IntKind.i64 1)) 3, type := 3, pos := "law.go:196", after := #[{ on := 25, ground := Ground.data }, { on := 19, ground := Ground.guard }], guard := some (19, true) }) (v := undef) rfl (by kernel_rfl) (by kernel_rfl) (by kernel_rfl) (fun _ _ _ h => h) (Or.inr ⟨by rfl, rfl⟩) (by assumption) ?_
              try simp only [Act.put, List.setIfInBounds_toArray, List.set_cons_zero, List.set_cons_succ]
              refine wpAnyH_take (i := 27) (oi := { dst := some 116, op := Op.indexAddr 33 (Operand.tmp 113) (Operand.tmp 115), type := 0, pos := "law.go:196", after := #[{ on := 24, ground := Ground.data }, { on := 26, ground := Ground.data }, { on := 19, ground := Ground.guard }], guard := some (19, true) }) (v := undef) rfl (by kernel_rfl) (by kernel_rfl) (by kernel_rfl) (fun _ _ _ h => h) (Or.inr ⟨by rfl, rfl⟩) (by assumption) ?_
              try simp only [Act.put, List.setIfInBounds_toArray, List.set_cons_zero, List.set_cons_succ]
              refine wpAnyH_take (i := 28) (oi := { dst := some 117, op := Op.load 3 (Operand.tmp 116), type := 3, pos := "law.go:196", after := #[{ on := 27, ground := Ground.data }, { on := 19, ground := Ground.guard }], guard := some (19, true) }) (v := undef) rfl (by kernel_rfl) (by kernel_rfl) (by kernel_rfl) (fun _ _ _ h => h) (Or.inr ⟨by rfl, rfl⟩) (by assumption) ?_
              try simp only [Act.put, List.setIfInBounds_toArray, List.set_cons_zero, List.set_cons_succ]
              refine wpAnyH_take (i := 29) (oi := { dst := some 118, op := Op.binOp BinOp.leq 3 (Operand.tmp 112) (Operand.tmp 117) 3, type := 4, pos := "law.go:196", after := #[{ on := 23, ground := Ground.data }, { on := 28, ground := Ground.data }, { on := 19, ground := Ground.guard }], guard := some (19, true) }) (v := undef) rfl (by kernel_rfl) (by kernel_rfl) (by kernel_rfl) (fun _ _ _ h => h) (Or.inr ⟨by rfl, rfl⟩) (by assumption) ?_
              try simp only [Act.put, List.setIfInBounds_toArray, List.set_cons_zero, List.set_cons_succ]
              refine wpAnyH_take (i := 30) (oi := { dst := some 119, op := Op.pick (Operand.tmp 108) (Operand.tmp 118) (Operand.const (Value.bool false)), type := 4, pos := "law.go:196", after := #[{ on := 19, ground := Ground.data }, { on := 29, ground := Ground.data }, { on := 16, ground := Ground.guard }], guard := some (16, false) }) (v := ?_) rfl (by kernel_rfl) (by kernel_rfl) (by kernel_rfl) (fun _ _ _ h => h) (Or.inl ⟨by rfl, ?_⟩) (by assumption) ?_
              rotate_left
              · (intro wz hSw; (try dsimp only at hSw); go_simp; first | done | with_reducible rfl)
              try simp only [Act.put, List.setIfInBounds_toArray, List.set_cons_zero, List.set_cons_succ]
              refine wpAnyH_take (i := 31) (oi := { dst := some 120, op := Op.pick (Operand.tmp 105) (Operand.const (Value.bool true)) (Operand.tmp 119), type := 4, pos := "law.go:196", after := #[{ on := 16, ground := Ground.data }, { on := 30, ground := Ground.data }], guard := none }) (v := ?_) rfl (by kernel_rfl) (by kernel_rfl) (by kernel_rfl) (fun _ _ _ h => h) (Or.inl ⟨by rfl, ?_⟩) (by assumption) ?_
              rotate_left
              · (intro wz hSw; (try dsimp only at hSw); go_simp; first | done | with_reducible rfl)
              try simp only [Act.put, List.setIfInBounds_toArray, List.set_cons_zero, List.set_cons_succ]
              refine wpAnyH_done (by kernel_rfl) ?_ _
              go_wp2_with fail
              go_roundw
              case rel => exact ⟨k + 1, by omega, by go_num, KQ.out.drew⟩
              case measure => simp [intOf]; omega
            · obtain ⟨k0, hkk0⟩ : ∃ k0, k0 + 1 = k := ⟨k - 1, by omega⟩
              have hk1 : k0 < (rl S (ra ++ rb)).length := by omega
              obtain ⟨t0, ht0⟩ : ∃ t0, (rl S (ra ++ rb))[k0]? = some t0 := ⟨_, List.getElem?_eq_getElem hk1⟩
              have hup := rl_lt HB.out.ok (ra ++ rb) ht0 ht (by omega)
              have hle : decide (t ≤ t0) = false := by rw [decide_eq_false_iff_not]; omega
              have hkp : decide ((0 : Int) < (k : Int)) = true := by rw [decide_eq_true_iff]; omega
              have hkp2 : decide (0 < k) = true := by rw [decide_eq_true_iff]; omega
              have hkk : IntKind.i64.wrap ((k : Int) - 1) = (k0 : Int) := by rw [IntKind.wrap_i64]; omega
              clear hkk0 hk0
              have e1 := (RL.at1 (I9.out.keep goodI KR.out) ht0)
              obtain ⟨bz1, qz1, hz1, e1, _, _⟩ := e1
              cases hz1
              clear ht ht0 hup
              go_upto_region 15 with fail
              refine wp_region_held_drew (S := fun w' => w'.cell? ⟨bz, qz + k, none⟩ = some (.int .i64 t) ∧ w'.cell? ⟨bz, qz + k0, none⟩ = some (.int .i64 t0)) (by kernel_rfl) (⟨(Kp.refl wr).drew.cellv e0, (Kp.refl wr).drew.cellv e1⟩) (fun hHeld0 => ?_)
              refine wpAnyH_take (i := 0) (oi := { dst := some 89, op := Op.move (Operand.tmp 11), type := 33, pos := "law.go:196", after := #[], guard := none }) (v := ?_) rfl (by kernel_rfl) (by kernel_rfl) (by kernel_rfl) (fun _ _ _ h => h) (Or.inl ⟨by rfl, ?_⟩) (by assumption) ?_
              rotate_left
              · (intro wz hSw; (try dsimp only at hSw); go_simp; first | done | with_reducible rfl)
              try simp only [Act.put, List.setIfInBounds_toArray, List.set_cons_zero, List.set_cons_succ]
              refine wpAnyH_take (i := 1) (oi := { dst := some 90, op := Op.move (Operand.tmp 15), type := 33, pos := "law.go:196", after := #[], guard := none }) (v := ?_) rfl (by kernel_rfl) (by kernel_rfl) (by kernel_rfl) (fun _ _ _ h => h) (Or.inl ⟨by rfl, ?_⟩) (by assumption) ?_
              rotate_left
              · (intro wz hSw; (try dsimp only at hSw); go_simp; first | done | with_reducible rfl)
              try simp only [Act.put, List.setIfInBounds_toArray, List.set_cons_zero, List.set_cons_succ]
              refine wpAnyH_take (i := 2) (oi := { dst := some 91, op := Op.move (Operand.tmp 19), type := 3, pos := "law.go:196", after := #[], guard := none }) (v := ?_) rfl (by kernel_rfl) (by kernel_rfl) (by kernel_rfl) (fun _ _ _ h => h) (Or.inl ⟨by rfl, ?_⟩) (by assumption) ?_
              rotate_left
              · (intro wz hSw; (try dsimp only at hSw); go_simp; first | done | with_reducible rfl)
              try simp only [Act.put, List.setIfInBounds_toArray, List.set_cons_zero, List.set_cons_succ]
              refine wpAnyH_take (i := 3) (oi := { dst := some 92, op := Op.indexAddr 33 (Operand.tmp 90) (Operand.tmp 91), type := 0, pos := "law.go:196", after := #[{ on := 1, ground := Ground.data }, { on := 2, ground := Ground.data }], guard := none }) (v := ?_) rfl (by kernel_rfl) (by kernel_rfl) (by kernel_rfl) (fun _ _ _ h => h) (Or.inl ⟨by rfl, ?_⟩) (by assumption) ?_
              rotate_left
              · (intro wz hSw; (try dsimp only at hSw); go_simp; first | done | with_reducible rfl)
              try simp only [Act.put, List.setIfInBounds_toArray, List.set_cons_zero, List.set_cons_succ]
              refine wpAnyH_take (i := 4) (oi := { dst := some 93, op := Op.load 3 (Operand.tmp 92), type := 3, pos := "law.go:196", after := #[{ on := 3, ground := Ground.data }], guard := none }) (v := ?_) rfl (by kernel_rfl) (by kernel_rfl) (by kernel_rfl) (fun _ _ _ h => h) (Or.inl ⟨by rfl, ?_⟩) (by assumption) ?_
              rotate_left
              · (intro wz hSw; (try dsimp only at hSw); go_simp; first | done | with_reducible rfl)
              try simp only [Act.put, List.setIfInBounds_toArray, List.set_cons_zero, List.set_cons_succ]
              refine wpAnyH_ready (rs := [5]) (by kernel_rfl) (by simp) ?_
              refine AllReadyH.cons (o := { dst := some 94, op := Op.call { callee := Callee.value (Operand.func 27), args := #[Operand.tmp 89, Operand.tmp 93], argTypes := #[33, 3] }, type := 4, pos := "law.go:196", after := #[{ on := 0, ground := Ground.data }, { on := 4, ground := Ground.data }], guard := none }) rfl (fun Kw hKw => ?_) AllReadyH.nil
              refine step_go (by rfl) (step_call (f := 27) (by rfl) Try.func27 (by kernel_rfl) (by kernel_rfl) (by simp [Act.eval, Act.put]) ((c_has (rl S ra) (.slice a4 (rl S ra).length c4) _ t wr.drew (IX.out.keep goodI (Kp.refl wr).drew)).mono ?_))
              rintro e w' ⟨rfl, hw'⟩
              subst hw'
              refine ⟨_, rfl, ?_⟩
              rw [HXT.out]
              refine hKw.out _ _ (⟨(Kp.refl wr).drew.cellv e0, (Kp.refl wr).drew.cellv e1⟩) (fun hHeld1 => ?_)
              clear hKw Kw hHeld0
              try simp only [Act.put, List.setIfInBounds_toArray, List.set_cons_zero, List.set_cons_succ]
              refine wpAnyH_take (i := 6) (oi := { dst := some 95, op := Op.unOp UnOp.not 4 (Operand.tmp 94), type := 4, pos := "law.go:196", after := #[{ on := 5, ground := Ground.data }], guard := none }) (v := ?_) rfl (by kernel_rfl) (by kernel_rfl) (by kernel_rfl) (fun _ _ _ h => h) (Or.inl ⟨by rfl, ?_⟩) (by assumption) ?_
              rotate_left
              · (intro wz hSw; (try dsimp only at hSw); go_simp; first | done | with_reducible rfl)
              try simp only [Act.put, List.setIfInBounds_toArray, List.set_cons_zero, List.set_cons_succ]
              refine wpAnyH_take (i := 7) (oi := { dst := some 96, op := Op.move (Operand.tmp 95), type := 4, pos := "law.go:196", after := #[{ on := 6, ground := Ground.data }, { on := 5, ground := Ground.chain }], guard := none }) (v := ?_) rfl (by kernel_rfl) (by kernel_rfl) (by kernel_rfl) (fun _ _ _ h => h) (Or.inl ⟨by rfl, ?_⟩) (by assumption) ?_
              rotate_left
              · (intro wz hSw; (try dsimp only at hSw); go_simp; first | done | with_reducible rfl)
              try simp only [Act.put, List.setIfInBounds_toArray, List.set_cons_zero, List.set_cons_succ]
              refine wpAnyH_take (i := 8) (oi := { dst := some 97, op := Op.move (Operand.tmp 13), type := 33, pos := "law.go:196", after := #[{ on := 7, ground := Ground.guard }], guard := some (7, true) }) (v := undef) rfl (by kernel_rfl) (by kernel_rfl) (by kernel_rfl) (fun _ _ _ h => h) (Or.inr ⟨by rfl, rfl⟩) (by assumption) ?_
              try simp only [Act.put, List.setIfInBounds_toArray, List.set_cons_zero, List.set_cons_succ]
              refine wpAnyH_take (i := 9) (oi := { dst := some 98, op := Op.move (Operand.tmp 15), type := 33, pos := "law.go:196", after := #[{ on := 7, ground := Ground.guard }], guard := some (7, true) }) (v := undef) rfl (by kernel_rfl) (by kernel_rfl) (by kernel_rfl) (fun _ _ _ h => h) (Or.inr ⟨by rfl, rfl⟩) (by assumption) ?_
              try simp only [Act.put, List.setIfInBounds_toArray, List.set_cons_zero, List.set_cons_succ]
              refine wpAnyH_take (i := 10) (oi := { dst := some 99, op := Op.move (Operand.tmp 19), type := 3, pos := "law.go:196", after := #[{ on := 7, ground := Ground.guard }], guard := some (7, true) }) (v := undef) rfl (by kernel_rfl) (by kernel_rfl) (by kernel_rfl) (fun _ _ _ h => h) (Or.inr ⟨by rfl, rfl⟩) (by assumption) ?_
              try simp only [Act.put, List.setIfInBounds_toArray, List.set_cons_zero, List.set_cons_succ]
              refine wpAnyH_take (i := 11) (oi := { dst := some 100, op := Op.indexAddr 33 (Operand.tmp 98) (Operand.tmp 99), type := 0, pos := "law.go:196", after := #[{ on := 9, ground := Ground.data }, { on := 10, ground := Ground.data }, { on := 7, ground := Ground.guard }], guard := some (7, true) }) (v := undef) rfl (by kernel_rfl) (by kernel_rfl) (by kernel_rfl) (fun _ _ _ h => h) (Or.inr ⟨by rfl, rfl⟩) (by assumption) ?_
              try simp only [Act.put, List.setIfInBounds_toArray, List.set_cons_zero, List.set_cons_succ]
              refine wpAnyH_take (i := 12) (oi := { dst := some 101, op := Op.load 3 (Operand.tmp 100), type := 3, pos := "law.go:196", after := #[{ on := 11, ground := Ground.data }, { on := 7, ground := Ground.guard }], guard := some (7, true) }) (v := undef) rfl (by kernel_rfl) (by kernel_rfl) (by kernel_rfl) (fun _ _ _ h => h) (Or.inr ⟨by rfl, rfl⟩) (by assumption) ?_
              try simp only [Act.put, List.setIfInBounds_toArray, List.set_cons_zero, List.set_cons_succ]
              refine wpAnyH_take (i := 13) (oi := { dst := some 102, op := Op.call { callee := Callee.value (Operand.func 27), args := #[Operand.tmp 97, Operand.tmp 101], argTypes := #[33, 3] }, type := 4, pos := "law.go:196", after := #[{ on := 8, ground := Ground.data }, { on := 12, ground := Ground.data }, { on := 7, ground := Ground.chain }, { on := 7, ground := Ground.guard }], guard := some (7, true) }) (v := undef) rfl (by kernel_rfl) (by kernel_rfl) (by kernel_rfl) (fun _ _ _ h => h) (Or.inr ⟨by rfl, rfl⟩) (by assumption) ?_
              try simp only [Act.put, List.setIfInBounds_toArray, List.set_cons_zero, List.set_cons_succ]
              refine wpAnyH_take (i := 14) (oi := { dst := some 103, op := Op.unOp UnOp.not 4 (Operand.tmp 102), type := 4, pos := "law.go:196", after := #[{ on := 13, ground := Ground.data }, { on := 7, ground := Ground.guard }], guard := some (7, true) }) (v := undef) rfl (by kernel_rfl) (by kernel_rfl) (by kernel_rfl) (fun _ _ _ h => h) (Or.inr ⟨by rfl, rfl⟩) (by assumption) ?_
              try simp only [Act.put, List.setIfInBounds_toArray, List.set_cons_zero, List.set_cons_succ]
              refine wpAnyH_take (i := 15) (oi := { dst := some 104, op := Op.pick (Operand.tmp 96) (Operand.tmp 103) (Operand.const (Value.bool false)), type := 4, pos := "law.go:196", after := #[{ on := 7, ground := Ground.data }, { on := 14, ground := Ground.data }], guard := none }) (v := ?_) rfl (by kernel_rfl) (by kernel_rfl) (by kernel_rfl) (fun _ _ _ h => h) (Or.inl ⟨by rfl, ?_⟩) (by assumption) ?_
              rotate_left
              · (intro wz hSw; (try dsimp only at hSw); go_simp; first | done | with_reducible rfl)
              try simp only [Act.put, List.setIfInBounds_toArray, List.set_cons_zero, List.set_cons_succ]
              refine wpAnyH_take (i := 16) (oi := { dst := some 105, op := Op.move (Operand.tmp 104), type := 4, pos := "law.go:196", after := #[{ on := 15, ground := Ground.data }, { on := 13, ground := Ground.chain }], guard := none }) (v := ?_) rfl (by kernel_rfl) (by kernel_rfl) (by kernel_rfl) (fun _ _ _ h => h) (Or.inl ⟨by rfl, ?_⟩) (by assumption) ?_
              rotate_left
              · (intro wz hSw; (try dsimp only at hSw); go_simp; first | done | with_reducible rfl)
              try simp only [Act.put, List.setIfInBounds_toArray, List.set_cons_zero, List.set_cons_succ]
              refine wpAnyH_take (i := 17) (oi := { dst := some 106, op := Op.move (Operand.tmp 19), type := 3, pos := "law.go:196", after := #[{ on := 16, ground := Ground.guard }], guard := some (16, false) }) (v := ?_) rfl (by kernel_rfl) (by kernel_rfl) (by kernel_rfl) (fun _ _ _ h => h) (Or.inl ⟨by rfl, ?_⟩) (by assumption) ?_
              rotate_left
              · (intro wz hSw; (try dsimp only at hSw); go_simp; first | done | with_reducible rfl)
              try simp only [Act.put, List.setIfInBounds_toArray, List.set_cons_zero, List.set_cons_succ]
              refine wpAnyH_take (i := 18) (oi := { dst := some 107, op := Op.binOp BinOp.gtr 3 (Operand.tmp 106) (Operand.const (Value.int IntKind.i64 0)) 3, type := 4, pos := "law.go:196", after := #[{ on := 17, ground := Ground.data }, { on := 16, ground := Ground.guard }], guard := some (16, false) }) (v := ?_) rfl (by kernel_rfl) (by kernel_rfl) (by kernel_rfl) (fun _ _ _ h => h) (Or.inl ⟨by rfl, ?_⟩) (by assumption) ?_
              rotate_left
              · (intro wz hSw; (try dsimp only at hSw); go_simp; first | done | with_reducible rfl)
              try simp only [Act.put, List.setIfInBounds_toArray, List.set_cons_zero, List.set_cons_succ]
              refine wpAnyH_take (i := 19) (oi := { dst := some 108, op := Op.move (Operand.tmp 107), type := 4, pos := "law.go:196", after := #[{ on := 18, ground := Ground.data }, { on := 16, ground := Ground.chain }, { on := 16, ground := Ground.guard }], guard := some (16, false) }) (v := ?_) rfl (by kernel_rfl) (by kernel_rfl) (by kernel_rfl) (fun _ _ _ h => h) (Or.inl ⟨by rfl, ?_⟩) (by assumption) ?_
              rotate_left
              · (intro wz hSw; (try dsimp only at hSw); go_simp; first | done | with_reducible rfl)
              try simp only [Act.put, List.setIfInBounds_toArray, List.set_cons_zero, List.set_cons_succ]
              refine wpAnyH_take (i := 20) (oi := { dst := some 109, op := Op.move (Operand.tmp 15), type := 33, pos := "law.go:196", after := #[{ on := 19, ground := Ground.guard }], guard := some (19, true) }) (v := ?_) rfl (by kernel_rfl) (by kernel_rfl) (by kernel_rfl) (fun _ _ _ h => h) (Or.inl ⟨by rfl, ?_⟩) (by assumption) ?_
              rotate_left
              · (intro wz hSw; (try dsimp only at hSw); go_simp; first | done | with_reducible rfl)
              try simp only [Act.put, List.setIfInBounds_toArray, List.set_cons_zero, List.set_cons_succ]
              refine wpAnyH_take (i := 21) (oi := { dst := some 110, op := Op.move (Operand.tmp 19), type := 3, pos := "law.go:196", after := #[{ on := 19, ground := Ground.guard }], guard := some (19, true) }) (v := ?_) rfl (by kernel_rfl) (by kernel_rfl) (by kernel_rfl) (fun _ _ _ h => h) (Or.inl ⟨by rfl, ?_⟩) (by assumption) ?_
              rotate_left
              · (intro wz hSw; (try dsimp only at hSw); go_simp; first | done | with_reducible rfl)
              try simp only [Act.put, List.setIfInBounds_toArray, List.set_cons_zero, List.set_cons_succ]
              refine wpAnyH_take (i := 22) (oi := { dst := some 111, op := Op.indexAddr 33 (Operand.tmp 109) (Operand.tmp 110), type := 0, pos := "law.go:196", after := #[{ on := 20, ground := Ground.data }, { on := 21, ground := Ground.data }, { on := 19, ground := Ground.guard }], guard := some (19, true) }) (v := ?_) rfl (by kernel_rfl) (by kernel_rfl) (by kernel_rfl) (fun _ _ _ h => h) (Or.inl ⟨by rfl, ?_⟩) (by assumption) ?_
              rotate_left
              · (intro wz hSw; (try dsimp only at hSw); go_simp; first | done | with_reducible rfl)
              try simp only [Act.put, List.setIfInBounds_toArray, List.set_cons_zero, List.set_cons_succ]
              refine wpAnyH_take (i := 23) (oi := { dst := some 112, op := Op.load 3 (Operand.tmp 111), type := 3, pos := "law.go:196", after := #[{ on := 22, ground := Ground.data }, { on := 19, ground := Ground.guard }], guard := some (19, true) }) (v := ?_) rfl (by kernel_rfl) (by kernel_rfl) (by kernel_rfl) (fun _ _ _ h => h) (Or.inl ⟨by rfl, ?_⟩) (by assumption) ?_
              rotate_left
              · (intro wz hSw; (try dsimp only at hSw); go_simp; first | done | with_reducible rfl)
              try simp only [Act.put, List.setIfInBounds_toArray, List.set_cons_zero, List.set_cons_succ]
              refine wpAnyH_take (i := 24) (oi := { dst := some 113, op := Op.move (Operand.tmp 15), type := 33, pos := "law.go:196", after := #[{ on := 19, ground := Ground.guard }], guard := some (19, true) }) (v := ?_) rfl (by kernel_rfl) (by kernel_rfl) (by kernel_rfl) (fun _ _ _ h => h) (Or.inl ⟨by rfl, ?_⟩) (by assumption) ?_
              rotate_left
              · (intro wz hSw; (try dsimp only at hSw); go_simp; first | done | with_reducible rfl)
              try simp only [Act.put, List.setIfInBounds_toArray, List.set_cons_zero, List.set_cons_succ]
              refine wpAnyH_take (i := 25) (oi := { dst := some 114, op := Op.move (Operand.tmp 19), type := 3, pos := "law.go:196", after := #[{ on := 19, ground := Ground.guard }], guard := some (19, true) }) (v := ?_) rfl (by kernel_rfl) (by kernel_rfl) (by kernel_rfl) (fun _ _ _ h => h) (Or.inl ⟨by rfl, ?_⟩) (by assumption) ?_
              rotate_left
              · (intro wz hSw; (try dsimp only at hSw); go_simp; first | done | with_reducible rfl)
              try simp only [Act.put, List.setIfInBounds_toArray, List.set_cons_zero, List.set_cons_succ]
              refine wpAnyH_take (i := 26) (oi := { dst := some 115, op := Op.binOp BinOp.sub 3 (Operand.tmp 114) (Operand.const (Value.int IntKind.i64 1)) 3, type := 3, pos := "law.go:196", after := #[{ on := 25, ground := Ground.data }, { on := 19, ground := Ground.guard }], guard := some (19, true) }) (v := ?_) rfl (by kernel_rfl) (by kernel_rfl) (by kernel_rfl) (fun _ _ _ h => h) (Or.inl ⟨by rfl, ?_⟩) (by assumption) ?_
              rotate_left
              · (intro wz hSw; (try dsimp only at hSw); go_simp; first | done | with_reducible rfl)
              try simp only [Act.put, List.setIfInBounds_toArray, List.set_cons_zero, List.set_cons_succ]
              refine wpAnyH_take (i := 27) (oi := { dst := some 116, op := Op.indexAddr 33 (Operand.tmp 113) (Operand.tmp 115), type := 0, pos := "law.go:196", after := #[{ on := 24, ground := Ground.data }, { on := 26, ground := Ground.data }, { on := 19, ground := Ground.guard }], guard := some (19, true) }) (v := ?_) rfl (by kernel_rfl) (by kernel_rfl) (by kernel_rfl) (fun _ _ _ h => h) (Or.inl ⟨by rfl, ?_⟩) (by assumption) ?_
              rotate_left
              · (intro wz hSw; (try dsimp only at hSw); go_simp; first | done | with_reducible rfl)
              try simp only [Act.put, List.setIfInBounds_toArray, List.set_cons_zero, List.set_cons_succ]
              refine wpAnyH_take (i := 28) (oi := { dst := some 117, op := Op.load 3 (Operand.tmp 116), type := 3, pos := "law.go:196", after := #[{ on := 27, ground := Ground.data }, { on := 19, ground := Ground.guard }], guard := some (19, true) }) (v := ?_) rfl (by kernel_rfl) (by kernel_rfl) (by kernel_rfl) (fun _ _ _ h => h) (Or.inl ⟨by rfl, ?_⟩) (by assumption) ?_
              rotate_left
              · (intro wz hSw; (try dsimp only at hSw); go_simp; first | done | with_reducible rfl)
              try simp only [Act.put, List.setIfInBounds_toArray, List.set_cons_zero, List.set_cons_succ]
              refine wpAnyH_take (i := 29) (oi := { dst := some 118, op := Op.binOp BinOp.leq 3 (Operand.tmp 112) (Operand.tmp 117) 3, type := 4, pos := "law.go:196", after := #[{ on := 23, ground := Ground.data }, { on := 28, ground := Ground.data }, { on := 19, ground := Ground.guard }], guard := some (19, true) }) (v := ?_) rfl (by kernel_rfl) (by kernel_rfl) (by kernel_rfl) (fun _ _ _ h => h) (Or.inl ⟨by rfl, ?_⟩) (by assumption) ?_
              rotate_left
              · (intro wz hSw; (try dsimp only at hSw); go_simp; first | done | with_reducible rfl)
              try simp only [Act.put, List.setIfInBounds_toArray, List.set_cons_zero, List.set_cons_succ]
              refine wpAnyH_take (i := 30) (oi := { dst := some 119, op := Op.pick (Operand.tmp 108) (Operand.tmp 118) (Operand.const (Value.bool false)), type := 4, pos := "law.go:196", after := #[{ on := 19, ground := Ground.data }, { on := 29, ground := Ground.data }, { on := 16, ground := Ground.guard }], guard := some (16, false) }) (v := ?_) rfl (by kernel_rfl) (by kernel_rfl) (by kernel_rfl) (fun _ _ _ h => h) (Or.inl ⟨by rfl, ?_⟩) (by assumption) ?_
              rotate_left
              · (intro wz hSw; (try dsimp only at hSw); go_simp; first | done | with_reducible rfl)
              try simp only [Act.put, List.setIfInBounds_toArray, List.set_cons_zero, List.set_cons_succ]
              refine wpAnyH_take (i := 31) (oi := { dst := some 120, op := Op.pick (Operand.tmp 105) (Operand.const (Value.bool true)) (Operand.tmp 119), type := 4, pos := "law.go:196", after := #[{ on := 16, ground := Ground.data }, { on := 30, ground := Ground.data }], guard := none }) (v := ?_) rfl (by kernel_rfl) (by kernel_rfl) (by kernel_rfl) (fun _ _ _ h => h) (Or.inl ⟨by rfl, ?_⟩) (by assumption) ?_
              rotate_left
              · (intro wz hSw; (try dsimp only at hSw); go_simp; first | done | with_reducible rfl)
              try simp only [Act.put, List.setIfInBounds_toArray, List.set_cons_zero, List.set_cons_succ]
              refine wpAnyH_done (by kernel_rfl) ?_ _
              go_wp2_with fail
              go_roundw
              case rel => exact ⟨k + 1, by omega, by go_num, KQ.out.drew⟩
              case measure => simp [intOf]; omega
          | false =>
            have HXT := Lib.hid hxt
            have HYT := Lib.hid (show hasL (rl S rb) t = true from hasLm.2 (rl_mem.2 (hor.resolve_left (fun h => by rw [hasLm.2 (rl_mem.2 h)] at hxt; cases hxt))))
            clear hor hxt
            by_cases hk0 : k = 0
            · have hkz : decide ((0 : Int) < (k : Int)) = false := by rw [decide_eq_false_iff_not]; omega
              have hkz2 : decide (0 < k) = false := by rw [decide_eq_false_iff_not]; omega
              clear ht hk0
              go_upto_region 15 with fail
              refine wp_region_held_drew (S := fun w' => w'.cell? ⟨bz, qz + k, none⟩ = some (.int .i64 t)) (by kernel_rfl) ((Kp.refl wr).drew.cellv e0) (fun hHeld0 => ?_)
              refine wpAnyH_take (i := 0) (oi := { dst := some 89, op := Op.move (Operand.tmp 11), type := 33, pos := "law.go:196", after := #[], guard := none }) (v := ?_) rfl (by kernel_rfl) (by kernel_rfl) (by kernel_rfl) (fun _ _ _ h => h) (Or.inl ⟨by rfl, ?_⟩) (by assumption) ?_
              rotate_left
              · (intro wz hSw; (try dsimp only at hSw); go_simp; first | done | with_reducible rfl)
              try simp only [Act.put, List.setIfInBounds_toArray, List.set_cons_zero, List.set_cons_succ]
              refine wpAnyH_take (i := 1) (oi := { dst := some 90, op := Op.move (Operand.tmp 15), type := 33, pos := "law.go:196", after := #[], guard := none }) (v := ?_) rfl (by kernel_rfl) (by kernel_rfl) (by kernel_rfl) (fun _ _ _ h => h) (Or.inl ⟨by rfl, ?_⟩) (by assumption) ?_
              rotate_left
              · (intro wz hSw; (try dsimp only at hSw); go_simp; first | done | with_reducible rfl)
              try simp only [Act.put, List.setIfInBounds_toArray, List.set_cons_zero, List.set_cons_succ]
              refine wpAnyH_take (i := 2) (oi := { dst := some 91, op := Op.move (Operand.tmp 19), type := 3, pos := "law.go:196", after := #[], guard := none }) (v := ?_) rfl (by kernel_rfl) (by kernel_rfl) (by kernel_rfl) (fun _ _ _ h => h) (Or.inl ⟨by rfl, ?_⟩) (by assumption) ?_
              rotate_left
              · (intro wz hSw; (try dsimp only at hSw); go_simp; first | done | with_reducible rfl)
              try simp only [Act.put, List.setIfInBounds_toArray, List.set_cons_zero, List.set_cons_succ]
              refine wpAnyH_take (i := 3) (oi := { dst := some 92, op := Op.indexAddr 33 (Operand.tmp 90) (Operand.tmp 91), type := 0, pos := "law.go:196", after := #[{ on := 1, ground := Ground.data }, { on := 2, ground := Ground.data }], guard := none }) (v := ?_) rfl (by kernel_rfl) (by kernel_rfl) (by kernel_rfl) (fun _ _ _ h => h) (Or.inl ⟨by rfl, ?_⟩) (by assumption) ?_
              rotate_left
              · (intro wz hSw; (try dsimp only at hSw); go_simp; first | done | with_reducible rfl)
              try simp only [Act.put, List.setIfInBounds_toArray, List.set_cons_zero, List.set_cons_succ]
              refine wpAnyH_take (i := 4) (oi := { dst := some 93, op := Op.load 3 (Operand.tmp 92), type := 3, pos := "law.go:196", after := #[{ on := 3, ground := Ground.data }], guard := none }) (v := ?_) rfl (by kernel_rfl) (by kernel_rfl) (by kernel_rfl) (fun _ _ _ h => h) (Or.inl ⟨by rfl, ?_⟩) (by assumption) ?_
              rotate_left
              · (intro wz hSw; (try dsimp only at hSw); go_simp; first | done | with_reducible rfl)
              try simp only [Act.put, List.setIfInBounds_toArray, List.set_cons_zero, List.set_cons_succ]
              refine wpAnyH_ready (rs := [5]) (by kernel_rfl) (by simp) ?_
              refine AllReadyH.cons (o := { dst := some 94, op := Op.call { callee := Callee.value (Operand.func 27), args := #[Operand.tmp 89, Operand.tmp 93], argTypes := #[33, 3] }, type := 4, pos := "law.go:196", after := #[{ on := 0, ground := Ground.data }, { on := 4, ground := Ground.data }], guard := none }) rfl (fun Kw hKw => ?_) AllReadyH.nil
              refine step_go (by rfl) (step_call (f := 27) (by rfl) Try.func27 (by kernel_rfl) (by kernel_rfl) (by simp [Act.eval, Act.put]) ((c_has (rl S ra) (.slice a4 (rl S ra).length c4) _ t wr.drew (IX.out.keep goodI (Kp.refl wr).drew)).mono ?_))
              rintro e w' ⟨rfl, hw'⟩
              subst hw'
              refine ⟨_, rfl, ?_⟩
              rw [HXT.out]
              refine hKw.out _ _ ((Kp.refl wr).drew.cellv e0) (fun hHeld1 => ?_)
              clear hKw Kw hHeld0
              try simp only [Act.put, List.setIfInBounds_toArray, List.set_cons_zero, List.set_cons_succ]
              refine wpAnyH_take (i := 6) (oi := { dst := some 95, op := Op.unOp UnOp.not 4 (Operand.tmp 94), type := 4, pos := "law.go:196", after := #[{ on := 5, ground := Ground.data }], guard := none }) (v := ?_) rfl (by kernel_rfl) (by kernel_rfl) (by kernel_rfl) (fun _ _ _ h => h) (Or.inl ⟨by rfl, ?_⟩) (by assumption) ?_
              rotate_left
              · (intro wz hSw; (try dsimp only at hSw); go_simp; first | done | with_reducible rfl)
              try simp only [Act.put, List.setIfInBounds_toArray, List.set_cons_zero, List.set_cons_succ]
              refine wpAnyH_take (i := 7) (oi := { dst := some 96, op := Op.move (Operand.tmp 95), type := 4, pos := "law.go:196", after := #[{ on := 6, ground := Ground.data }, { on := 5, ground := Ground.chain }], guard := none }) (v := ?_) rfl (by kernel_rfl) (by kernel_rfl) (by kernel_rfl) (fun _ _ _ h => h) (Or.inl ⟨by rfl, ?_⟩) (by assumption) ?_
              rotate_left
              · (intro wz hSw; (try dsimp only at hSw); go_simp; first | done | with_reducible rfl)
              try simp only [Act.put, List.setIfInBounds_toArray, List.set_cons_zero, List.set_cons_succ]
              refine wpAnyH_take (i := 8) (oi := { dst := some 97, op := Op.move (Operand.tmp 13), type := 33, pos := "law.go:196", after := #[{ on := 7, ground := Ground.guard }], guard := some (7, true) }) (v := ?_) rfl (by kernel_rfl) (by kernel_rfl) (by kernel_rfl) (fun _ _ _ h => h) (Or.inl ⟨by rfl, ?_⟩) (by assumption) ?_
              rotate_left
              · (intro wz hSw; (try dsimp only at hSw); go_simp; first | done | with_reducible rfl)
              try simp only [Act.put, List.setIfInBounds_toArray, List.set_cons_zero, List.set_cons_succ]
              refine wpAnyH_take (i := 9) (oi := { dst := some 98, op := Op.move (Operand.tmp 15), type := 33, pos := "law.go:196", after := #[{ on := 7, ground := Ground.guard }], guard := some (7, true) }) (v := ?_) rfl (by kernel_rfl) (by kernel_rfl) (by kernel_rfl) (fun _ _ _ h => h) (Or.inl ⟨by rfl, ?_⟩) (by assumption) ?_
              rotate_left
              · (intro wz hSw; (try dsimp only at hSw); go_simp; first | done | with_reducible rfl)
              try simp only [Act.put, List.setIfInBounds_toArray, List.set_cons_zero, List.set_cons_succ]
              refine wpAnyH_take (i := 10) (oi := { dst := some 99, op := Op.move (Operand.tmp 19), type := 3, pos := "law.go:196", after := #[{ on := 7, ground := Ground.guard }], guard := some (7, true) }) (v := ?_) rfl (by kernel_rfl) (by kernel_rfl) (by kernel_rfl) (fun _ _ _ h => h) (Or.inl ⟨by rfl, ?_⟩) (by assumption) ?_
              rotate_left
              · (intro wz hSw; (try dsimp only at hSw); go_simp; first | done | with_reducible rfl)
              try simp only [Act.put, List.setIfInBounds_toArray, List.set_cons_zero, List.set_cons_succ]
              refine wpAnyH_take (i := 11) (oi := { dst := some 100, op := Op.indexAddr 33 (Operand.tmp 98) (Operand.tmp 99), type := 0, pos := "law.go:196", after := #[{ on := 9, ground := Ground.data }, { on := 10, ground := Ground.data }, { on := 7, ground := Ground.guard }], guard := some (7, true) }) (v := ?_) rfl (by kernel_rfl) (by kernel_rfl) (by kernel_rfl) (fun _ _ _ h => h) (Or.inl ⟨by rfl, ?_⟩) (by assumption) ?_
              rotate_left
              · (intro wz hSw; (try dsimp only at hSw); go_simp; first | done | with_reducible rfl)
              try simp only [Act.put, List.setIfInBounds_toArray, List.set_cons_zero, List.set_cons_succ]
              refine wpAnyH_take (i := 12) (oi := { dst := some 101, op := Op.load 3 (Operand.tmp 100), type := 3, pos := "law.go:196", after := #[{ on := 11, ground := Ground.data }, { on := 7, ground := Ground.guard }], guard := some (7, true) }) (v := ?_) rfl (by kernel_rfl) (by kernel_rfl) (by kernel_rfl) (fun _ _ _ h => h) (Or.inl ⟨by rfl, ?_⟩) (by assumption) ?_
              rotate_left
              · (intro wz hSw; (try dsimp only at hSw); go_simp; first | done | with_reducible rfl)
              try simp only [Act.put, List.setIfInBounds_toArray, List.set_cons_zero, List.set_cons_succ]
              refine wpAnyH_ready (rs := [13]) (by kernel_rfl) (by simp) ?_
              refine AllReadyH.cons (o := { dst := some 102, op := Op.call { callee := Callee.value (Operand.func 27), args := #[Operand.tmp 97, Operand.tmp 101], argTypes := #[33, 3] }, type := 4, pos := "law.go:196", after := #[{ on := 8, ground := Ground.data }, { on := 12, ground := Ground.data }, { on := 7, ground := Ground.chain }, { on := 7, ground := Ground.guard }], guard := some (7, true) }) rfl (fun Kw hKw => ?_) AllReadyH.nil
              refine step_want (by rfl) (step_call (f := 27) (by rfl) Try.func27 (by kernel_rfl) (by kernel_rfl) (by simp [Act.eval, Act.put]) ((c_has (rl S rb) (.slice a6 (rl S rb).length c6) _ t wr.drew (IY.out.keep goodI (Kp.refl wr).drew)).mono ?_))
              rintro e w' ⟨rfl, hw'⟩
              subst hw'
              refine ⟨_, rfl, ?_⟩
              rw [HYT.out]
              refine hKw.out _ _ ((Kp.refl wr).drew.cellv e0) (fun hHeld2 => ?_)
              clear hKw Kw hHeld1
              try simp only [Act.put, List.setIfInBounds_toArray, List.set_cons_zero, List.set_cons_succ]
              refine wpAnyH_take (i := 14) (oi := { dst := some 103, op := Op.unOp UnOp.not 4 (Operand.tmp 102), type := 4, pos := "law.go:196", after := #[{ on := 13, ground := Ground.data }, { on := 7, ground := Ground.guard }], guard := some (7, true) }) (v := ?_) rfl (by kernel_rfl) (by kernel_rfl) (by kernel_rfl) (fun _ _ _ h => h) (Or.inl ⟨by rfl, ?_⟩) (by assumption) ?_
              rotate_left
              · (intro wz hSw; (try dsimp only at hSw); go_simp; first | done | with_reducible rfl)
              try simp only [Act.put, List.setIfInBounds_toArray, List.set_cons_zero, List.set_cons_succ]
              refine wpAnyH_take (i := 15) (oi := { dst := some 104, op := Op.pick (Operand.tmp 96) (Operand.tmp 103) (Operand.const (Value.bool false)), type := 4, pos := "law.go:196", after := #[{ on := 7, ground := Ground.data }, { on := 14, ground := Ground.data }], guard := none }) (v := ?_) rfl (by kernel_rfl) (by kernel_rfl) (by kernel_rfl) (fun _ _ _ h => h) (Or.inl ⟨by rfl, ?_⟩) (by assumption) ?_
              rotate_left
              · (intro wz hSw; (try dsimp only at hSw); go_simp; first | done | with_reducible rfl)
              try simp only [Act.put, List.setIfInBounds_toArray, List.set_cons_zero, List.set_cons_succ]
              refine wpAnyH_take (i := 16) (oi := { dst := some 105, op := Op.move (Operand.tmp 104), type := 4, pos := "law.go:196", after := #[{ on := 15, ground := Ground.data }, { on := 13, ground := Ground.chain }], guard := none }) (v := ?_) rfl (by kernel_rfl) (by kernel_rfl) (by kernel_rfl) (fun _ _ _ h => h) (Or.inl ⟨by rfl, ?_⟩) (by assumption) ?_
              rotate_left
              · (intro wz hSw; (try dsimp only at hSw); go_simp; first | done | with_reducible rfl)
              try simp only [Act.put, List.setIfInBounds_toArray, List.set_cons_zero, List.set_cons_succ]
              refine wpAnyH_take (i := 17) (oi := { dst := some 106, op := Op.move (Operand.tmp 19), type := 3, pos := "law.go:196", after := #[{ on := 16, ground := Ground.guard }], guard := some (16, false) }) (v := ?_) rfl (by kernel_rfl) (by kernel_rfl) (by kernel_rfl) (fun _ _ _ h => h) (Or.inl ⟨by rfl, ?_⟩) (by assumption) ?_
              rotate_left
              · (intro wz hSw; (try dsimp only at hSw); go_simp; first | done | with_reducible rfl)
              try simp only [Act.put, List.setIfInBounds_toArray, List.set_cons_zero, List.set_cons_succ]
              refine wpAnyH_take (i := 18) (oi := { dst := some 107, op := Op.binOp BinOp.gtr 3 (Operand.tmp 106) (Operand.const (Value.int IntKind.i64 0)) 3, type := 4, pos := "law.go:196", after := #[{ on := 17, ground := Ground.data }, { on := 16, ground := Ground.guard }], guard := some (16, false) }) (v := ?_) rfl (by kernel_rfl) (by kernel_rfl) (by kernel_rfl) (fun _ _ _ h => h) (Or.inl ⟨by rfl, ?_⟩) (by assumption) ?_
              rotate_left
              · (intro wz hSw; (try dsimp only at hSw); go_simp; first | done | with_reducible rfl)
              try simp only [Act.put, List.setIfInBounds_toArray, List.set_cons_zero, List.set_cons_succ]
              refine wpAnyH_take (i := 19) (oi := { dst := some 108, op := Op.move (Operand.tmp 107), type := 4, pos := "law.go:196", after := #[{ on := 18, ground := Ground.data }, { on := 16, ground := Ground.chain }, { on := 16, ground := Ground.guard }], guard := some (16, false) }) (v := ?_) rfl (by kernel_rfl) (by kernel_rfl) (by kernel_rfl) (fun _ _ _ h => h) (Or.inl ⟨by rfl, ?_⟩) (by assumption) ?_
              rotate_left
              · (intro wz hSw; (try dsimp only at hSw); go_simp; first | done | with_reducible rfl)
              try simp only [Act.put, List.setIfInBounds_toArray, List.set_cons_zero, List.set_cons_succ]
              refine wpAnyH_take (i := 20) (oi := { dst := some 109, op := Op.move (Operand.tmp 15), type := 33, pos := "law.go:196", after := #[{ on := 19, ground := Ground.guard }], guard := some (19, true) }) (v := undef) rfl (by kernel_rfl) (by kernel_rfl) (by kernel_rfl) (fun _ _ _ h => h) (Or.inr ⟨by rfl, rfl⟩) (by assumption) ?_
              try simp only [Act.put, List.setIfInBounds_toArray, List.set_cons_zero, List.set_cons_succ]
              refine wpAnyH_take (i := 21) (oi := { dst := some 110, op := Op.move (Operand.tmp 19), type := 3, pos := "law.go:196", after := #[{ on := 19, ground := Ground.guard }], guard := some (19, true) }) (v := undef) rfl (by kernel_rfl) (by kernel_rfl) (by kernel_rfl) (fun _ _ _ h => h) (Or.inr ⟨by rfl, rfl⟩) (by assumption) ?_
              try simp only [Act.put, List.setIfInBounds_toArray, List.set_cons_zero, List.set_cons_succ]
              refine wpAnyH_take (i := 22) (oi := { dst := some 111, op := Op.indexAddr 33 (Operand.tmp 109) (Operand.tmp 110), type := 0, pos := "law.go:196", after := #[{ on := 20, ground := Ground.data }, { on := 21, ground := Ground.data }, { on := 19, ground := Ground.guard }], guard := some (19, true) }) (v := undef) rfl (by kernel_rfl) (by kernel_rfl) (by kernel_rfl) (fun _ _ _ h => h) (Or.inr ⟨by rfl, rfl⟩) (by assumption) ?_
              try simp only [Act.put, List.setIfInBounds_toArray, List.set_cons_zero, List.set_cons_succ]
              refine wpAnyH_take (i := 23) (oi := { dst := some 112, op := Op.load 3 (Operand.tmp 111), type := 3, pos := "law.go:196", after := #[{ on := 22, ground := Ground.data }, { on := 19, ground := Ground.guard }], guard := some (19, true) }) (v := undef) rfl (by kernel_rfl) (by kernel_rfl) (by kernel_rfl) (fun _ _ _ h => h) (Or.inr ⟨by rfl, rfl⟩) (by assumption) ?_
              try simp only [Act.put, List.setIfInBounds_toArray, List.set_cons_zero, List.set_cons_succ]
              refine wpAnyH_take (i := 24) (oi := { dst := some 113, op := Op.move (Operand.tmp 15), type := 33, pos := "law.go:196", after := #[{ on := 19, ground := Ground.guard }], guard := some (19, true) }) (v := undef) rfl (by kernel_rfl) (by kernel_rfl) (by kernel_rfl) (fun _ _ _ h => h) (Or.inr ⟨by rfl, rfl⟩) (by assumption) ?_
              try simp only [Act.put, List.setIfInBounds_toArray, List.set_cons_zero, List.set_cons_succ]
              refine wpAnyH_take (i := 25) (oi := { dst := some 114, op := Op.move (Operand.tmp 19), type := 3, pos := "law.go:196", after := #[{ on := 19, ground := Ground.guard }], guard := some (19, true) }) (v := undef) rfl (by kernel_rfl) (by kernel_rfl) (by kernel_rfl) (fun _ _ _ h => h) (Or.inr ⟨by rfl, rfl⟩) (by assumption) ?_
              try simp only [Act.put, List.setIfInBounds_toArray, List.set_cons_zero, List.set_cons_succ]
              refine wpAnyH_take (i := 26) (oi := { dst := some 115, op := Op.binOp BinOp.sub 3 (Operand.tmp 114) (Operand.const (Value.int IntKind.i64 1)) 3, type := 3, pos := "law.go:196", after := #[{ on := 25, ground := Ground.data }, { on := 19, ground := Ground.guard }], guard := some (19, true) }) (v := undef) rfl (by kernel_rfl) (by kernel_rfl) (by kernel_rfl) (fun _ _ _ h => h) (Or.inr ⟨by rfl, rfl⟩) (by assumption) ?_
              try simp only [Act.put, List.setIfInBounds_toArray, List.set_cons_zero, List.set_cons_succ]
              refine wpAnyH_take (i := 27) (oi := { dst := some 116, op := Op.indexAddr 33 (Operand.tmp 113) (Operand.tmp 115), type := 0, pos := "law.go:196", after := #[{ on := 24, ground := Ground.data }, { on := 26, ground := Ground.data }, { on := 19, ground := Ground.guard }], guard := some (19, true) }) (v := undef) rfl (by kernel_rfl) (by kernel_rfl) (by kernel_rfl) (fun _ _ _ h => h) (Or.inr ⟨by rfl, rfl⟩) (by assumption) ?_
              try simp only [Act.put, List.setIfInBounds_toArray, List.set_cons_zero, List.set_cons_succ]
              refine wpAnyH_take (i := 28) (oi := { dst := some 117, op := Op.load 3 (Operand.tmp 116), type := 3, pos := "law.go:196", after := #[{ on := 27, ground := Ground.data }, { on := 19, ground := Ground.guard }], guard := some (19, true) }) (v := undef) rfl (by kernel_rfl) (by kernel_rfl) (by kernel_rfl) (fun _ _ _ h => h) (Or.inr ⟨by rfl, rfl⟩) (by assumption) ?_
              try simp only [Act.put, List.setIfInBounds_toArray, List.set_cons_zero, List.set_cons_succ]
              refine wpAnyH_take (i := 29) (oi := { dst := some 118, op := Op.binOp BinOp.leq 3 (Operand.tmp 112) (Operand.tmp 117) 3, type := 4, pos := "law.go:196", after := #[{ on := 23, ground := Ground.data }, { on := 28, ground := Ground.data }, { on := 19, ground := Ground.guard }], guard := some (19, true) }) (v := undef) rfl (by kernel_rfl) (by kernel_rfl) (by kernel_rfl) (fun _ _ _ h => h) (Or.inr ⟨by rfl, rfl⟩) (by assumption) ?_
              try simp only [Act.put, List.setIfInBounds_toArray, List.set_cons_zero, List.set_cons_succ]
              refine wpAnyH_take (i := 30) (oi := { dst := some 119, op := Op.pick (Operand.tmp 108) (Operand.tmp 118) (Operand.const (Value.bool false)), type := 4, pos := "law.go:196", after := #[{ on := 19, ground := Ground.data }, { on := 29, ground := Ground.data }, { on := 16, ground := Ground.guard }], guard := some (16, false) }) (v := ?_) rfl (by kernel_rfl) (by kernel_rfl) (by kernel_rfl) (fun _ _ _ h => h) (Or.inl ⟨by rfl, ?_⟩) (by assumption) ?_
              rotate_left
              · (intro wz hSw; (try dsimp only at hSw); go_simp; first | done | with_reducible rfl)
              try simp only [Act.put, List.setIfInBounds_toArray, List.set_cons_zero, List.set_cons_succ]
              refine wpAnyH_take (i := 31) (oi := { dst := some 120, op := Op.pick (Operand.tmp 105) (Operand.const (Value.bool true)) (Operand.tmp 119), type := 4, pos := "law.go:196", after := #[{ on := 16, ground := Ground.data }, { on := 30, ground := Ground.data }], guard := none }) (v := ?_) rfl (by kernel_rfl) (by kernel_rfl) (by kernel_rfl) (fun _ _ _ h => h) (Or.inl ⟨by rfl, ?_⟩) (by assumption) ?_
              rotate_left
              · (intro wz hSw; (try dsimp only at hSw); go_simp; first | done | with_reducible rfl)
              try simp only [Act.put, List.setIfInBounds_toArray, List.set_cons_zero, List.set_cons_succ]
              refine wpAnyH_done (by kernel_rfl) ?_ _
              go_wp2_with fail
              go_roundw
              case rel => exact ⟨k + 1, by omega, by go_num, KQ.out.drew⟩
              case measure => simp [intOf]; omega
            · obtain ⟨k0, hkk0⟩ : ∃ k0, k0 + 1 = k := ⟨k - 1, by omega⟩
              have hk1 : k0 < (rl S (ra ++ rb)).length := by omega
              obtain ⟨t0, ht0⟩ : ∃ t0, (rl S (ra ++ rb))[k0]? = some t0 := ⟨_, List.getElem?_eq_getElem hk1⟩
              have hup := rl_lt HB.out.ok (ra ++ rb) ht0 ht (by omega)
              have hle : decide (t ≤ t0) = false := by rw [decide_eq_false_iff_not]; omega
              have hkp : decide ((0 : Int) < (k : Int)) = true := by rw [decide_eq_true_iff]; omega
              have hkp2 : decide (0 < k) = true := by rw [decide_eq_true_iff]; omega
              have hkk : IntKind.i64.wrap ((k : Int) - 1) = (k0 : Int) := by rw [IntKind.wrap_i64]; omega
              clear hkk0 hk0
              have e1 := (RL.at1 (I9.out.keep goodI KR.out) ht0)
              obtain ⟨bz1, qz1, hz1, e1, _, _⟩ := e1
              cases hz1
              clear ht ht0 hup
              go_upto_region 15 with fail
              refine wp_region_held_drew (S := fun w' => w'.cell? ⟨bz, qz + k, none⟩ = some (.int .i64 t) ∧ w'.cell? ⟨bz, qz + k0, none⟩ = some (.int .i64 t0)) (by kernel_rfl) (⟨(Kp.refl wr).drew.cellv e0, (Kp.refl wr).drew.cellv e1⟩) (fun hHeld0 => ?_)
              refine wpAnyH_take (i := 0) (oi := { dst := some 89, op := Op.move (Operand.tmp 11), type := 33, pos := "law.go:196", after := #[], guard := none }) (v := ?_) rfl (by kernel_rfl) (by kernel_rfl) (by kernel_rfl) (fun _ _ _ h => h) (Or.inl ⟨by rfl, ?_⟩) (by assumption) ?_
              rotate_left
              · (intro wz hSw; (try dsimp only at hSw); go_simp; first | done | with_reducible rfl)
              try simp only [Act.put, List.setIfInBounds_toArray, List.set_cons_zero, List.set_cons_succ]
              refine wpAnyH_take (i := 1) (oi := { dst := some 90, op := Op.move (Operand.tmp 15), type := 33, pos := "law.go:196", after := #[], guard := none }) (v := ?_) rfl (by kernel_rfl) (by kernel_rfl) (by kernel_rfl) (fun _ _ _ h => h) (Or.inl ⟨by rfl, ?_⟩) (by assumption) ?_
              rotate_left
              · (intro wz hSw; (try dsimp only at hSw); go_simp; first | done | with_reducible rfl)
              try simp only [Act.put, List.setIfInBounds_toArray, List.set_cons_zero, List.set_cons_succ]
              refine wpAnyH_take (i := 2) (oi := { dst := some 91, op := Op.move (Operand.tmp 19), type := 3, pos := "law.go:196", after := #[], guard := none }) (v := ?_) rfl (by kernel_rfl) (by kernel_rfl) (by kernel_rfl) (fun _ _ _ h => h) (Or.inl ⟨by rfl, ?_⟩) (by assumption) ?_
              rotate_left
              · (intro wz hSw; (try dsimp only at hSw); go_simp; first | done | with_reducible rfl)
              try simp only [Act.put, List.setIfInBounds_toArray, List.set_cons_zero, List.set_cons_succ]
              refine wpAnyH_take (i := 3) (oi := { dst := some 92, op := Op.indexAddr 33 (Operand.tmp 90) (Operand.tmp 91), type := 0, pos := "law.go:196", after := #[{ on := 1, ground := Ground.data }, { on := 2, ground := Ground.data }], guard := none }) (v := ?_) rfl (by kernel_rfl) (by kernel_rfl) (by kernel_rfl) (fun _ _ _ h => h) (Or.inl ⟨by rfl, ?_⟩) (by assumption) ?_
              rotate_left
              · (intro wz hSw; (try dsimp only at hSw); go_simp; first | done | with_reducible rfl)
              try simp only [Act.put, List.setIfInBounds_toArray, List.set_cons_zero, List.set_cons_succ]
              refine wpAnyH_take (i := 4) (oi := { dst := some 93, op := Op.load 3 (Operand.tmp 92), type := 3, pos := "law.go:196", after := #[{ on := 3, ground := Ground.data }], guard := none }) (v := ?_) rfl (by kernel_rfl) (by kernel_rfl) (by kernel_rfl) (fun _ _ _ h => h) (Or.inl ⟨by rfl, ?_⟩) (by assumption) ?_
              rotate_left
              · (intro wz hSw; (try dsimp only at hSw); go_simp; first | done | with_reducible rfl)
              try simp only [Act.put, List.setIfInBounds_toArray, List.set_cons_zero, List.set_cons_succ]
              refine wpAnyH_ready (rs := [5]) (by kernel_rfl) (by simp) ?_
              refine AllReadyH.cons (o := { dst := some 94, op := Op.call { callee := Callee.value (Operand.func 27), args := #[Operand.tmp 89, Operand.tmp 93], argTypes := #[33, 3] }, type := 4, pos := "law.go:196", after := #[{ on := 0, ground := Ground.data }, { on := 4, ground := Ground.data }], guard := none }) rfl (fun Kw hKw => ?_) AllReadyH.nil
              refine step_go (by rfl) (step_call (f := 27) (by rfl) Try.func27 (by kernel_rfl) (by kernel_rfl) (by simp [Act.eval, Act.put]) ((c_has (rl S ra) (.slice a4 (rl S ra).length c4) _ t wr.drew (IX.out.keep goodI (Kp.refl wr).drew)).mono ?_))
              rintro e w' ⟨rfl, hw'⟩
              subst hw'
              refine ⟨_, rfl, ?_⟩
              rw [HXT.out]
              refine hKw.out _ _ (⟨(Kp.refl wr).drew.cellv e0, (Kp.refl wr).drew.cellv e1⟩) (fun hHeld1 => ?_)
              clear hKw Kw hHeld0
              try simp only [Act.put, List.setIfInBounds_toArray, List.set_cons_zero, List.set_cons_succ]
              refine wpAnyH_take (i := 6) (oi := { dst := some 95, op := Op.unOp UnOp.not 4 (Operand.tmp 94), type := 4, pos := "law.go:196", after := #[{ on := 5, ground := Ground.data }], guard := none }) (v := ?_) rfl (by kernel_rfl) (by kernel_rfl) (by kernel_rfl) (fun _ _ _ h => h) (Or.inl ⟨by rfl, ?_⟩) (by assumption) ?_
              rotate_left
              · (intro wz hSw; (try dsimp only at hSw); go_simp; first | done | with_reducible rfl)
              try simp only [Act.put, List.setIfInBounds_toArray, List.set_cons_zero, List.set_cons_succ]
              refine wpAnyH_take (i := 7) (oi := { dst := some 96, op := Op.move (Operand.tmp 95), type := 4, pos := "law.go:196", after := #[{ on := 6, ground := Ground.data }, { on := 5, ground := Ground.chain }], guard := none }) (v := ?_) rfl (by kernel_rfl) (by kernel_rfl) (by kernel_rfl) (fun _ _ _ h => h) (Or.inl ⟨by rfl, ?_⟩) (by assumption) ?_
              rotate_left
              · (intro wz hSw; (try dsimp only at hSw); go_simp; first | done | with_reducible rfl)
              try simp only [Act.put, List.setIfInBounds_toArray, List.set_cons_zero, List.set_cons_succ]
              refine wpAnyH_take (i := 8) (oi := { dst := some 97, op := Op.move (Operand.tmp 13), type := 33, pos := "law.go:196", after := #[{ on := 7, ground := Ground.guard }], guard := some (7, true) }) (v := ?_) rfl (by kernel_rfl) (by kernel_rfl) (by kernel_rfl) (fun _ _ _ h => h) (Or.inl ⟨by rfl, ?_⟩) (by assumption) ?_
              rotate_left
              · (intro wz hSw; (try dsimp only at hSw); go_simp; first | done | with_reducible rfl)
              try simp only [Act.put, List.setIfInBounds_toArray, List.set_cons_zero, List.set_cons_succ]
              refine wpAnyH_take (i := 9) (oi := { dst := some 98, op := Op.move (Operand.tmp 15), type := 33, pos := "law.go:196", after := #[{ on := 7, ground := Ground.guard }], guard := some (7, true) }) (v := ?_) rfl (by kernel_rfl) (by kernel_rfl) (by kernel_rfl) (fun _ _ _ h => h) (Or.inl ⟨by rfl, ?_⟩) (by assumption) ?_
              rotate_left
              · (intro wz hSw; (try dsimp only at hSw); go_simp; first | done | with_reducible rfl)
              try simp only [Act.put, List.setIfInBounds_toArray, List.set_cons_zero, List.set_cons_succ]
              refine wpAnyH_take (i := 10) (oi := { dst := some 99, op := Op.move (Operand.tmp 19), type := 3, pos := "law.go:196", after := #[{ on := 7, ground := Ground.guard }], guard := some (7, true) }) (v := ?_) rfl (by kernel_rfl) (by kernel_rfl) (by kernel_rfl) (fun _ _ _ h => h) (Or.inl ⟨by rfl, ?_⟩) (by assumption) ?_
              rotate_left
              · (intro wz hSw; (try dsimp only at hSw); go_simp; first | done | with_reducible rfl)
              try simp only [Act.put, List.setIfInBounds_toArray, List.set_cons_zero, List.set_cons_succ]
              refine wpAnyH_take (i := 11) (oi := { dst := some 100, op := Op.indexAddr 33 (Operand.tmp 98) (Operand.tmp 99), type := 0, pos := "law.go:196", after := #[{ on := 9, ground := Ground.data }, { on := 10, ground := Ground.data }, { on := 7, ground := Ground.guard }], guard := some (7, true) }) (v := ?_) rfl (by kernel_rfl) (by kernel_rfl) (by kernel_rfl) (fun _ _ _ h => h) (Or.inl ⟨by rfl, ?_⟩) (by assumption) ?_
              rotate_left
              · (intro wz hSw; (try dsimp only at hSw); go_simp; first | done | with_reducible rfl)
              try simp only [Act.put, List.setIfInBounds_toArray, List.set_cons_zero, List.set_cons_succ]
              refine wpAnyH_take (i := 12) (oi := { dst := some 101, op := Op.load 3 (Operand.tmp 100), type := 3, pos := "law.go:196", after := #[{ on := 11, ground := Ground.data }, { on := 7, ground := Ground.guard }], guard := some (7, true) }) (v := ?_) rfl (by kernel_rfl) (by kernel_rfl) (by kernel_rfl) (fun _ _ _ h => h) (Or.inl ⟨by rfl, ?_⟩) (by assumption) ?_
              rotate_left
              · (intro wz hSw; (try dsimp only at hSw); go_simp; first | done | with_reducible rfl)
              try simp only [Act.put, List.setIfInBounds_toArray, List.set_cons_zero, List.set_cons_succ]
              refine wpAnyH_ready (rs := [13]) (by kernel_rfl) (by simp) ?_
              refine AllReadyH.cons (o := { dst := some 102, op := Op.call { callee := Callee.value (Operand.func 27), args := #[Operand.tmp 97, Operand.tmp 101], argTypes := #[33, 3] }, type := 4, pos := "law.go:196", after := #[{ on := 8, ground := Ground.data }, { on := 12, ground := Ground.data }, { on := 7, ground := Ground.chain }, { on := 7, ground := Ground.guard }], guard := some (7, true) }) rfl (fun Kw hKw => ?_) AllReadyH.nil
              refine step_want (by rfl) (step_call (f := 27) (by rfl) Try.func27 (by kernel_rfl) (by kernel_rfl) (by simp [Act.eval, Act.put]) ((c_has (rl S rb) (.slice a6 (rl S rb).length c6) _ t wr.drew (IY.out.keep goodI (Kp.refl wr).drew)).mono ?_))
              rintro e w' ⟨rfl, hw'⟩
              subst hw'
              refine ⟨_, rfl, ?_⟩
              rw [HYT.out]
              refine hKw.out _ _ (⟨(Kp.refl wr).drew.cellv e0, (Kp.refl wr).drew.cellv e1⟩) (fun hHeld2 => ?_)
              clear hKw Kw hHeld1
              try simp only [Act.put, List.setIfInBounds_toArray, List.set_cons_zero, List.set_cons_succ]
              refine wpAnyH_take (i := 14) (oi := { dst := some 103, op := Op.unOp UnOp.not 4 (Operand.tmp 102), type := 4, pos := "law.go:196", after := #[{ on := 13, ground := Ground.data }, { on := 7, ground := Ground.guard }], guard := some (7, true) }) (v := ?_) rfl (by kernel_rfl) (by kernel_rfl) (by kernel_rfl) (fun _ _ _ h => h) (Or.inl ⟨by rfl, ?_⟩) (by assumption) ?_
              rotate_left
              · (intro wz hSw; (try dsimp only at hSw); go_simp; first | done | with_reducible rfl)
              try simp only [Act.put, List.setIfInBounds_toArray, List.set_cons_zero, List.set_cons_succ]
              refine wpAnyH_take (i := 15) (oi := { dst := some 104, op := Op.pick (Operand.tmp 96) (Operand.tmp 103) (Operand.const (Value.bool false)), type := 4, pos := "law.go:196", after := #[{ on := 7, ground := Ground.data }, { on := 14, ground := Ground.data }], guard := none }) (v := ?_) rfl (by kernel_rfl) (by kernel_rfl) (by kernel_rfl) (fun _ _ _ h => h) (Or.inl ⟨by rfl, ?_⟩) (by assumption) ?_
              rotate_left
              · (intro wz hSw; (try dsimp only at hSw); go_simp; first | done | with_reducible rfl)
              try simp only [Act.put, List.setIfInBounds_toArray, List.set_cons_zero, List.set_cons_succ]
              refine wpAnyH_take (i := 16) (oi := { dst := some 105, op := Op.move (Operand.tmp 104), type := 4, pos := "law.go:196", after := #[{ on := 15, ground := Ground.data }, { on := 13, ground := Ground.chain }], guard := none }) (v := ?_) rfl (by kernel_rfl) (by kernel_rfl) (by kernel_rfl) (fun _ _ _ h => h) (Or.inl ⟨by rfl, ?_⟩) (by assumption) ?_
              rotate_left
              · (intro wz hSw; (try dsimp only at hSw); go_simp; first | done | with_reducible rfl)
              try simp only [Act.put, List.setIfInBounds_toArray, List.set_cons_zero, List.set_cons_succ]
              refine wpAnyH_take (i := 17) (oi := { dst := some 106, op := Op.move (Operand.tmp 19), type := 3, pos := "law.go:196", after := #[{ on := 16, ground := Ground.guard }], guard := some (16, false) }) (v := ?_) rfl (by kernel_rfl) (by kernel_rfl) (by kernel_rfl) (fun _ _ _ h => h) (Or.inl ⟨by rfl, ?_⟩) (by assumption) ?_
              rotate_left
              · (intro wz hSw; (try dsimp only at hSw); go_simp; first | done | with_reducible rfl)
              try simp only [Act.put, List.setIfInBounds_toArray, List.set_cons_zero, List.set_cons_succ]
              refine wpAnyH_take (i := 18) (oi := { dst := some 107, op := Op.binOp BinOp.gtr 3 (Operand.tmp 106) (Operand.const (Value.int IntKind.i64 0)) 3, type := 4, pos := "law.go:196", after := #[{ on := 17, ground := Ground.data }, { on := 16, ground := Ground.guard }], guard := some (16, false) }) (v := ?_) rfl (by kernel_rfl) (by kernel_rfl) (by kernel_rfl) (fun _ _ _ h => h) (Or.inl ⟨by rfl, ?_⟩) (by assumption) ?_
              rotate_left
              · (intro wz hSw; (try dsimp only at hSw); go_simp; first | done | with_reducible rfl)
              try simp only [Act.put, List.setIfInBounds_toArray, List.set_cons_zero, List.set_cons_succ]
              refine wpAnyH_take (i := 19) (oi := { dst := some 108, op := Op.move (Operand.tmp 107), type := 4, pos := "law.go:196", after := #[{ on := 18, ground := Ground.data }, { on := 16, ground := Ground.chain }, { on := 16, ground := Ground.guard }], guard := some (16, false) }) (v := ?_) rfl (by kernel_rfl) (by kernel_rfl) (by kernel_rfl) (fun _ _ _ h => h) (Or.inl ⟨by rfl, ?_⟩) (by assumption) ?_
              rotate_left
              · (intro wz hSw; (try dsimp only at hSw); go_simp; first | done | with_reducible rfl)
              try simp only [Act.put, List.setIfInBounds_toArray, List.set_cons_zero, List.set_cons_succ]
              refine wpAnyH_take (i := 20) (oi := { dst := some 109, op := Op.move (Operand.tmp 15), type := 33, pos := "law.go:196", after := #[{ on := 19, ground := Ground.guard }], guard := some (19, true) }) (v := ?_) rfl (by kernel_rfl) (by kernel_rfl) (by kernel_rfl) (fun _ _ _ h => h) (Or.inl ⟨by rfl, ?_⟩) (by assumption) ?_
              rotate_left
              · (intro wz hSw; (try dsimp only at hSw); go_simp; first | done | with_reducible rfl)
              try simp only [Act.put, List.setIfInBounds_toArray, List.set_cons_zero, List.set_cons_succ]
              refine wpAnyH_take (i := 21) (oi := { dst := some 110, op := Op.move (Operand.tmp 19), type := 3, pos := "law.go:196", after := #[{ on := 19, ground := Ground.guard }], guard := some (19, true) }) (v := ?_) rfl (by kernel_rfl) (by kernel_rfl) (by kernel_rfl) (fun _ _ _ h => h) (Or.inl ⟨by rfl, ?_⟩) (by assumption) ?_
              rotate_left
              · (intro wz hSw; (try dsimp only at hSw); go_simp; first | done | with_reducible rfl)
              try simp only [Act.put, List.setIfInBounds_toArray, List.set_cons_zero, List.set_cons_succ]
              refine wpAnyH_take (i := 22) (oi := { dst := some 111, op := Op.indexAddr 33 (Operand.tmp 109) (Operand.tmp 110), type := 0, pos := "law.go:196", after := #[{ on := 20, ground := Ground.data }, { on := 21, ground := Ground.data }, { on := 19, ground := Ground.guard }], guard := some (19, true) }) (v := ?_) rfl (by kernel_rfl) (by kernel_rfl) (by kernel_rfl) (fun _ _ _ h => h) (Or.inl ⟨by rfl, ?_⟩) (by assumption) ?_
              rotate_left
              · (intro wz hSw; (try dsimp only at hSw); go_simp; first | done | with_reducible rfl)
              try simp only [Act.put, List.setIfInBounds_toArray, List.set_cons_zero, List.set_cons_succ]
              refine wpAnyH_take (i := 23) (oi := { dst := some 112, op := Op.load 3 (Operand.tmp 111), type := 3, pos := "law.go:196", after := #[{ on := 22, ground := Ground.data }, { on := 19, ground := Ground.guard }], guard := some (19, true) }) (v := ?_) rfl (by kernel_rfl) (by kernel_rfl) (by kernel_rfl) (fun _ _ _ h => h) (Or.inl ⟨by rfl, ?_⟩) (by assumption) ?_
              rotate_left
              · (intro wz hSw; (try dsimp only at hSw); go_simp; first | done | with_reducible rfl)
              try simp only [Act.put, List.setIfInBounds_toArray, List.set_cons_zero, List.set_cons_succ]
              refine wpAnyH_take (i := 24) (oi := { dst := some 113, op := Op.move (Operand.tmp 15), type := 33, pos := "law.go:196", after := #[{ on := 19, ground := Ground.guard }], guard := some (19, true) }) (v := ?_) rfl (by kernel_rfl) (by kernel_rfl) (by kernel_rfl) (fun _ _ _ h => h) (Or.inl ⟨by rfl, ?_⟩) (by assumption) ?_
              rotate_left
              · (intro wz hSw; (try dsimp only at hSw); go_simp; first | done | with_reducible rfl)
              try simp only [Act.put, List.setIfInBounds_toArray, List.set_cons_zero, List.set_cons_succ]
              refine wpAnyH_take (i := 25) (oi := { dst := some 114, op := Op.move (Operand.tmp 19), type := 3, pos := "law.go:196", after := #[{ on := 19, ground := Ground.guard }], guard := some (19, true) }) (v := ?_) rfl (by kernel_rfl) (by kernel_rfl) (by kernel_rfl) (fun _ _ _ h => h) (Or.inl ⟨by rfl, ?_⟩) (by assumption) ?_
              rotate_left
              · (intro wz hSw; (try dsimp only at hSw); go_simp; first | done | with_reducible rfl)
              try simp only [Act.put, List.setIfInBounds_toArray, List.set_cons_zero, List.set_cons_succ]
              refine wpAnyH_take (i := 26) (oi := { dst := some 115, op := Op.binOp BinOp.sub 3 (Operand.tmp 114) (Operand.const (Value.int IntKind.i64 1)) 3, type := 3, pos := "law.go:196", after := #[{ on := 25, ground := Ground.data }, { on := 19, ground := Ground.guard }], guard := some (19, true) }) (v := ?_) rfl (by kernel_rfl) (by kernel_rfl) (by kernel_rfl) (fun _ _ _ h => h) (Or.inl ⟨by rfl, ?_⟩) (by assumption) ?_
              rotate_left
              · (intro wz hSw; (try dsimp only at hSw); go_simp; first | done | with_reducible rfl)
              try simp only [Act.put, List.setIfInBounds_toArray, List.set_cons_zero, List.set_cons_succ]
              refine wpAnyH_take (i := 27) (oi := { dst := some 116, op := Op.indexAddr 33 (Operand.tmp 113) (Operand.tmp 115), type := 0, pos := "law.go:196", after := #[{ on := 24, ground := Ground.data }, { on := 26, ground := Ground.data }, { on := 19, ground := Ground.guard }], guard := some (19, true) }) (v := ?_) rfl (by kernel_rfl) (by kernel_rfl) (by kernel_rfl) (fun _ _ _ h => h) (Or.inl ⟨by rfl, ?_⟩) (by assumption) ?_
              rotate_left
              · (intro wz hSw; (try dsimp only at hSw); go_simp; first | done | with_reducible rfl)
              try simp only [Act.put, List.setIfInBounds_toArray, List.set_cons_zero, List.set_cons_succ]
              refine wpAnyH_take (i := 28) (oi := { dst := some 117, op := Op.load 3 (Operand.tmp 116), type := 3, pos := "law.go:196", after := #[{ on := 27, ground := Ground.data }, { on := 19, ground := Ground.guard }], guard := some (19, true) }) (v := ?_) rfl (by kernel_rfl) (by kernel_rfl) (by kernel_rfl) (fun _ _ _ h => h) (Or.inl ⟨by rfl, ?_⟩) (by assumption) ?_
              rotate_left
              · (intro wz hSw; (try dsimp only at hSw); go_simp; first | done | with_reducible rfl)
              try simp only [Act.put, List.setIfInBounds_toArray, List.set_cons_zero, List.set_cons_succ]
              refine wpAnyH_take (i := 29) (oi := { dst := some 118, op := Op.binOp BinOp.leq 3 (Operand.tmp 112) (Operand.tmp 117) 3, type := 4, pos := "law.go:196", after := #[{ on := 23, ground := Ground.data }, { on := 28, ground := Ground.data }, { on := 19, ground := Ground.guard }], guard := some (19, true) }) (v := ?_) rfl (by kernel_rfl) (by kernel_rfl) (by kernel_rfl) (fun _ _ _ h => h) (Or.inl ⟨by rfl, ?_⟩) (by assumption) ?_
              rotate_left
              · (intro wz hSw; (try dsimp only at hSw); go_simp; first | done | with_reducible rfl)
              try simp only [Act.put, List.setIfInBounds_toArray, List.set_cons_zero, List.set_cons_succ]
              refine wpAnyH_take (i := 30) (oi := { dst := some 119, op := Op.pick (Operand.tmp 108) (Operand.tmp 118) (Operand.const (Value.bool false)), type := 4, pos := "law.go:196", after := #[{ on := 19, ground := Ground.data }, { on := 29, ground := Ground.data }, { on := 16, ground := Ground.guard }], guard := some (16, false) }) (v := ?_) rfl (by kernel_rfl) (by kernel_rfl) (by kernel_rfl) (fun _ _ _ h => h) (Or.inl ⟨by rfl, ?_⟩) (by assumption) ?_
              rotate_left
              · (intro wz hSw; (try dsimp only at hSw); go_simp; first | done | with_reducible rfl)
              try simp only [Act.put, List.setIfInBounds_toArray, List.set_cons_zero, List.set_cons_succ]
              refine wpAnyH_take (i := 31) (oi := { dst := some 120, op := Op.pick (Operand.tmp 105) (Operand.const (Value.bool true)) (Operand.tmp 119), type := 4, pos := "law.go:196", after := #[{ on := 16, ground := Ground.data }, { on := 30, ground := Ground.data }], guard := none }) (v := ?_) rfl (by kernel_rfl) (by kernel_rfl) (by kernel_rfl) (fun _ _ _ h => h) (Or.inl ⟨by rfl, ?_⟩) (by assumption) ?_
              rotate_left
              · (intro wz hSw; (try dsimp only at hSw); go_simp; first | done | with_reducible rfl)
              try simp only [Act.put, List.setIfInBounds_toArray, List.set_cons_zero, List.set_cons_succ]
              refine wpAnyH_done (by kernel_rfl) ?_ _
              go_wp2_with fail
              go_roundw
              case rel => exact ⟨k + 1, by omega, by go_num, KQ.out.drew⟩
              case measure => simp [intOf]; omega
        · clear hkr
          go_wp2_with fail
          go_loopw [20] (fun iv wt => ∃ k : Nat, k ≤ (rl S ra).length + (rl S rb).length ∧ iv = .int .i64 (k : Int) ∧ wt = wr) (fun iv _ => (rl S ra).length + (rl S rb).length - (intOf iv).toNat)
          case atStart => exact ⟨0, by omega, rfl, rfl⟩
          case round =>
            obtain ⟨j, hj, rfl, hw⟩ := hrel
            subst hw
            have IX := Lib.hid (I4.out.keep goodI KR.out)
            have IY := Lib.hid (I6.out.keep goodI KR.out)
            have IZ := Lib.hid (I9.out.keep goodI KR.out)
            by_cases hjx : j < (rl S ra).length
            · obtain ⟨t, ht⟩ : ∃ t, (rl S ra)[j]? = some t := ⟨_, List.getElem?_eq_getElem hjx⟩
              obtain ⟨bx, qx, rfl, e0, eb, _⟩ := RL.at1 IX.out ht
              have HZT := Lib.hid (show hasL (rl S (ra ++ rb)) t = true from hasLm.2 (rl_mem.2 (rch_left (rl_mem.1 (List.mem_of_getElem? ht)))))
              have hs1 : (j : Int) < ((rl S ra).length : Int) + ((rl S rb).length : Int) := by omega
              clear ht
              go_wp2_with (first
                | (go_at_call 27; (with_reducible refine (c_has (rl S (ra ++ rb)) _ _ t _ IZ.out).mono ?_); rintro e w' ⟨rfl, hw'⟩; rw [hw', HZT.out]; clear hw' w'))
              go_roundw
              case rel => exact ⟨j + 1, by omega, by go_num, trivial⟩
              case measure => simp [intOf]; omega
            · by_cases hjy : j < (rl S ra).length + (rl S rb).length
              · obtain ⟨m, rfl⟩ : ∃ m, j = (rl S ra).length + m := ⟨j - (rl S ra).length, by omega⟩
                have hmy : m < (rl S rb).length := by omega
                obtain ⟨t, ht⟩ : ∃ t, (rl S rb)[m]? = some t := ⟨_, List.getElem?_eq_getElem hmy⟩
                obtain ⟨bx, qx, rfl, e0, eb, _⟩ := RL.at1 IY.out ht
                have HZT := Lib.hid (show hasL (rl S (ra ++ rb)) t = true from hasLm.2 (rl_mem.2 (rch_right (rl_mem.1 (List.mem_of_getElem? ht)))))
                clear ht
                go_wp2_with (first
                  | (go_at_call 27; (with_reducible refine (c_has (rl S (ra ++ rb)) _ _ t _ IZ.out).mono ?_); rintro e w' ⟨rfl, hw'⟩; rw [hw', HZT.out]; clear hw' w'))
                go_roundw
                case rel => exact ⟨(rl S ra).length + m + 1, by omega, by go_num, trivial⟩
                case measure => simp [intOf]; omega
              · go_wp2_with fail
                go_ret
                exact ⟨rfl, HK.out.trans KR.out⟩
end Go.Proofs.Ytkaeigklhdpifaa
