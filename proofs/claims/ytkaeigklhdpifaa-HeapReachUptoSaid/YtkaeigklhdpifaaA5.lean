/- What is reached: the walk. Condition: the heap lies in memory. -/
import Derived.Test.YtkaeigklhdpifaaA4
namespace Go.Proofs.Ytkaeigklhdpifaa
open Go.RowKit Go.Maps Go.Sort
set_option linter.unusedVariables false
set_option linter.unusedSimpArgs false
theorem PV.pop {S : Hs} {roots : List Int} {g : Int → Nat} {po st : List Int} {T : Nat} {x : Int} (h : PV S roots g po (st ++ [x]) T) : PV S roots g (po ++ [x]) st T ∧ ∀ k, k ∈ po ++ (st ++ [x]) ↔ k ∈ (po ++ [x]) ++ st := by
  have hp : (po ++ (st ++ [x])).Perm ((po ++ [x]) ++ st) := by
    rw [List.append_assoc]
    exact List.Perm.append_left _ List.perm_append_comm
  exact ⟨⟨hp.nodup_iff.1 h.nd, fun k => by rw [← hp.mem_iff]; exact h.mem k, fun k hk => h.rch k (hp.mem_iff.2 hk), h.le⟩, fun k => hp.mem_iff⟩
theorem conv_ref {n : Int} (h : n = 0 ∨ (1 ≤ n ∧ n ≤ 65536)) : 0 ≤ n ∧ n ≤ 65536 := by omega
set_option maxHeartbeats 2000000 in
set_option maxRecDepth 100000 in
theorem c_reached {N : Nat → Prop} {p bud : Nat} {S : Hs} (l : List Int) (v : Value) (B : Sel) (w : World) (h : HP w N p bud S) (ok : Ok S bud) (hl : IL w B l v) (hkn : knownR S l = true) :
    Calls Try.prog 49 #[.pointer (some ⟨p, 0, none⟩), v] w fun e w' => ∃ mt D g, e = .returned (.map (some mt)) ∧ OM RI w' mt D ∧ TmIs D g ∧ (∀ k, 0 < g k ↔ Rch S l k) ∧ (∀ k, g k ≤ 2305843009213693952) ∧ Maps.size D ≤ 65536 ∧ w.heap.size ≤ mt ∧ Kp w w' := by
  have hmm := @run_makeMap Try.prog
  obtain ⟨ad, c, C, rfl, hlc, hby, hC, htab, hx⟩ := hl
  have HH := Lib.hid h
  have HK := Lib.hid ok
  have HT := Lib.hid htab
  have HX := Lib.hid hx
  have HKN := Lib.hid hkn
  obtain ⟨iC, hIC, hC0, hC1, hC2⟩ := info_parts infoC
  clear h ok htab hx hC hkn
  go_enter Try.func49, Try.ntmps49
  go_wp2_with fail
  go_loopw [17] (fun i wr => ∃ (k : Nat) (g : Int → Nat) (st : List Int), k ≤ l.length ∧ i = .int .i64 (k : Int) ∧ RX w wr (w.heap.size + 1) (w.heap.size + 1 + 1) w.heap.size g (([] : List Int).length + st.length) st ∧ PV S l g [] st k ∧ (∀ r ∈ l.take k, r ≠ 0 → r ∈ [] ++ st)) (fun i _ => l.length - (intOf i).toNat)
  case atStart =>
    refine ⟨0, fun _ => 0, [], by omega, rfl, ⟨(((Kp.refl w).alloc _).alloc _).alloc _, ?_, ⟨.slice none 0 0, heap_at (by simp), World.ownsRow_nil _ _ _ _⟩, ⟨.map [], ?_, ⟨isMap_empty, fun k => rfl, fun k h => by omega⟩, rfl⟩, by omega, by omega, by omega⟩, PV.start S l, fun r hr => by simp at hr⟩
    · exact (((Kp.refl ((w.alloc (.map #[] 0)).alloc (.cells #[.map (some w.heap.size)] 91))).alloc _).blk (b := w.heap.size + 1) (by simp)).trans (heap_at (by simp))
    · exact OM.turn (w := w.alloc (.map #[] 0)) (OM.of (World.ownsMap_made w Try.prog 3 RI)) ((((Kp.refl (w.alloc (.map #[] 0))).alloc _).alloc _).blk (by simp))
  case round =>
    obtain ⟨k, g, st, hk, rfl, hrx, hpv, hin⟩ := hrel
    have HR := Lib.hid hrx
    have HP' := Lib.hid hpv
    have HI := Lib.hid hin
    have hst : st.length ≤ 65536 := by have := hpv.len; have := HK.out.len; have h0 : ([] : List Int).length = 0 := rfl; omega
    clear hrx hpv hin
    by_cases hlt : k < l.length
    · obtain ⟨r, hr⟩ : ∃ r, l[k]? = some r := ⟨_, List.getElem?_eq_getElem hlt⟩
      obtain ⟨hcr, hir⟩ := HX.out k r hr
      obtain ⟨b, q, rfl, hrg⟩ := (HT.out.keep HR.out.old).at (by omega)
      have hrk := hrg k hlt
      rw [hcr] at hrk
      have e0 : wr.cell? ⟨b, q + k * 1, none⟩ = some (.int .i64 r) := rangeAt_head hrk
      rw [Nat.mul_one] at e0
      have ez := lt_of_cell e0
      dsimp only at ez
      have HRR := Lib.hid hr
      have hrr : r = 0 ∨ Rch S l r := by
        have := HKN.out
        unfold knownR at this
        rw [List.all_eq_true] at this
        have h1 := this r (List.mem_of_getElem? hr)
        rw [Bool.or_eq_true] at h1
        rcases h1 with h1 | h1
        · exact .inl (by simpa using h1)
        · exact .inr (.root (List.mem_of_getElem? hr) h1)
      have HQ := Lib.hid hrr
      have hgr : g r ≤ 1152921504606846976 := by have := HP'.out.le r; omega
      clear hrk hrg hcr hr hrr
      go_wp2_with (first | ((with_reducible show wpList _ _ _ (⟨some 19, _, _, _, _, _⟩ :: _) _ _); refine wpList_index_tab (d := 19) _ _ _ rfl 3 Try.underlying33 1 rfl _ _ _ _ q (by rfl) rfl k (by rfl) hlt ?_; rw [Nat.mul_one]) | (go_at_call 56; (with_reducible refine (c_meet r wr HR.out hir hgr (by simpa using hst) hst).mono ?_); rintro e w1 ⟨rfl, hr1, hs1⟩; have HR1 := Lib.hid hr1; clear hr1))
      go_roundw
      case rel =>
        obtain ⟨hm1, hm2⟩ := HP'.out.meet HQ.out
        refine ⟨k + 1, gx g r, sx g st r, by omega, by go_num, ?_, hm1, fun y hy h0 => ?_⟩
        · have := HR1.out
          rwa [nx_len HP'.out] at this
        · rw [List.take_add_one, HRR.out, List.mem_append] at hy
          rcases hy with hy | hy
          · exact sx_mem (HI.out y hy h0)
          · simp at hy; subst hy; exact hm2 h0
      case measure => simp [intOf]; omega
    · have : k = l.length := by omega
      subst this
      have HIN : Hid (∀ r ∈ l, r ≠ 0 → r ∈ [] ++ st) := Lib.hid (by have := HI.out; rwa [List.take_of_length_le (Nat.le_refl _)] at this)
      obtain ⟨wq, hwq⟩ : ∃ wq, wq = wr := ⟨_, rfl⟩
      subst hwq
      clear hst HI
      go_wp2_with fail
      go_loopw [] (fun wr => ∃ (po st : List Int) (g : Int → Nat), RX w wr (w.heap.size + 1) (w.heap.size + 1 + 1) w.heap.size g (po.length + st.length) st ∧ PV S l g po st (l.length + po.length * 65536) ∧ Cl S po (po ++ st) ∧ (∀ r ∈ l, r ≠ 0 → r ∈ po ++ st)) (fun wr => S.length + 1 - (mapN wr w.heap.size - leftN wr (w.heap.size + 1 + 1)))
      case atStart => exact ⟨[], st, g, HR.out, by simpa using HP'.out, fun x hx => (by cases hx), HIN.out⟩
      case round =>
        obtain ⟨po, st, g, hrx, hpv, hcl, hin⟩ := hrel
        obtain ⟨wt, hwt⟩ : ∃ wt, wt = wr := ⟨_, rfl⟩
        subst hwt
        have HR := Lib.hid hrx
        have HV := Lib.hid hpv
        have HC := Lib.hid hcl
        have HIN := Lib.hid hin
        have hcount := hrx.count
        have hplen := hpv.len
        clear hrx hpv hcl hin
        rcases List.eq_nil_or_concat st with rfl | ⟨st', x, hst2⟩
        · obtain ⟨vl, h1, h2⟩ := HR.out.lbx
          obtain ⟨al, cl, rfl⟩ := own_slice h2
          have l0 : wt.cell? ⟨w.heap.size + 1 + 1, 0, none⟩ = some (.slice al 0 cl) := row_cell h1 0
          have t0 : wt.cell? ⟨w.heap.size + 1, 0, none⟩ = some (.map (some w.heap.size)) := row_cell HR.out.tbx 0
          obtain ⟨z1, z2, z3, _⟩ := HR.out.lt
          clear h1 h2
          go_wp2_with fail
          go_ret
          obtain ⟨D, h3, h4, h5⟩ := HR.out.own
          refine ⟨_, D, g, rfl, h3, h4, HV.out.all HK.out (fun r hr h0 => by simpa using HIN.out r hr h0) (by simpa using HC.out), fun k => ?_, ?_, by omega, HR.out.old⟩
          · have := HV.out.le k
            have := HK.out.len
            have : po.length ≤ 65536 := by omega
            have := Nat.mul_le_mul_right 65536 this
            omega
          · have := HK.out.len
            rw [h5]; omega
        · rw [List.concat_eq_append] at hst2
          subst hst2
          obtain ⟨gb, cap, l0, lf, e0, z0, zc, zm, zl, hpop⟩ := HR.out.pop
          obtain ⟨hv1, hv2⟩ := HV.out.pop
          have HPOP := Lib.hid hpop
          have HV1 := Lib.hid hv1
          have HV2 := Lib.hid hv2
          obtain ⟨b, hbm, hbn⟩ := hasN_iff.1 (HV.out.rch x (by simp)).has
          obtain ⟨np, lt, tk, mb, D, F, h1, h2, h3, h4, h5, h6, h7, h8⟩ := HH.out
          obtain ⟨u, hu1, hu2⟩ := h8.ob b hbm
          rw [hbn] at hu1
          obtain ⟨au, cu, rfl⟩ := hu2.slice
          have c3 := (row4 (row_keep HR.out.old h1)).2.2.2
          have hmbl := lt mb h2
          have hpz : p < w.heap.size := HH.out.lt p HH.out.np
          have hxi : i64 x := by have := HK.out.pos b hbm; unfold i64; omega
          have hbl : b.cs.length ≤ 65536 := by have := used_mem hbm; have := HK.out.fit; have := HK.out.bud; omega
          have HB := Lib.hid hbm
          have H5 := Lib.hid (h5.turn (HR.out.old.blk hmbl))
          have H6 := Lib.hid h6
          have HU1 := Lib.hid hu1
          have HU2 := Lib.hid hu2
          have HUL := Lib.hid (fun g' (hg' : (Value.slice au b.cs.length cu).ownBlock = some g') => lt g' (h8.inN _ _ g' hu1 hg').1)
          have hmb : mb ≠ w.heap.size + 1 + 1 := by omega
          have hstl : st'.length + 1 ≤ 65536 := by have := HK.out.len; simp at hplen; omega
          clear hpop hv1 hv2 lt h1 h2 h3 h4 h5 h6 h7 h8 hu1 hu2
          go_wp2_with (first
            | ((with_reducible show wpList _ _ _ (⟨some 32, _, _, _, _, _⟩ :: _) _ _); refine wpList_index_tab (d := 32) _ _ _ rfl 3 Try.underlying33 1 rfl _ _ _ _ 0 (by rfl) rfl st'.length (by first | rfl | rfl) (by omega) ?_; rw [Nat.mul_one, Nat.zero_add])
            | ((with_reducible show wpList _ _ _ (⟨some 44, _, _, _, _, _⟩ :: _) _ _); refine wpList_get (d := 44) _ _ rfl mb D F (by rfl) (H5.out.turn (Below.heap_setCell _ _ _ _ hmb)) H6.out x (by rfl) hxi ?_; rw [HU1.out]))
          obtain ⟨w3, hw3⟩ : ∃ w3, w3 = wt.setCell ⟨w.heap.size + 1 + 1, 0, none⟩ (.slice (some ⟨gb, 0, none⟩) st'.length cap) := ⟨_, rfl⟩
          rw [← hw3] at HPOP ⊢
          have hp1 : (po ++ [x]).length = po.length + 1 := by simp
          have hcnt3 := HPOP.out.count
          clear hw3 H5 H6 HU1 l0 lf e0 z0 zc zm zl c3
          go_loopw [46] (fun i wi => ∃ (k : Nat) (g2 : Int → Nat) (st2 : List Int), k ≤ b.cs.length ∧ i = .int .i64 (k : Int) ∧ RX w wi (w.heap.size + 1) (w.heap.size + 1 + 1) w.heap.size g2 ((po ++ [x]).length + st2.length) st2 ∧ PV S l g2 (po ++ [x]) st2 (l.length + po.length * 65536 + k) ∧ Cl S po ((po ++ [x]) ++ st2) ∧ (∀ r ∈ l, r ≠ 0 → r ∈ (po ++ [x]) ++ st2) ∧ (∀ j c, j < k → b.cs[j]? = some c → c.2 = true → c.1 ≠ 0 → c.1 ∈ (po ++ [x]) ++ st2)) (fun i _ => b.cs.length - (intOf i).toNat)
          case atStart =>
            refine ⟨0, g, st', by omega, rfl, ?_, HV1.out, HC.out.mono (fun k hk => (HV2.out k).1 hk), fun r hr h0 => (HV2.out r).1 (HIN.out r hr h0), fun j c hj => by omega⟩
            have := HPOP.out
            rw [hp1]
            simpa [Nat.add_assoc, Nat.add_comm, Nat.add_left_comm] using this
          case round =>
            obtain ⟨k, g2, st2, hk, rfl, hrx, hpv, hcl, hin, hcs⟩ := hrel
            obtain ⟨wi, hwi⟩ : ∃ wi, wi = wr := ⟨_, rfl⟩
            subst hwi
            have GR := Lib.hid hrx
            have GV := Lib.hid hpv
            have GC := Lib.hid hcl
            have GI := Lib.hid hin
            have GS := Lib.hid hcs
            have GU := Lib.hid (HU2.out.turn (w' := wi) (fun g' hg' => hrx.old.blk (HUL.out g' hg')))
            have hst2 : st2.length ≤ 65536 := by have := hpv.len; have := HK.out.len; omega
            have hn2 : (po ++ [x]).length + st2.length ≤ 65536 := by have := hpv.len; have := HK.out.len; omega
            have hpo2 : po.length ≤ 65536 := by omega
            have hT : ∀ k, g2 k ≤ 1152921504606846976 := fun y => by
              have := hpv.le y
              have := Nat.mul_le_mul_right 65536 hpo2
              omega
            clear hrx hpv hcl hin hcs
            by_cases hlt2 : k < b.cs.length
            · obtain ⟨cc, hcc⟩ : ∃ cc, b.cs[k]? = some cc := ⟨_, List.getElem?_eq_getElem hlt2⟩
              obtain ⟨g0, cap0, hgs, e1, e2, e3, e4, e5⟩ := GU.out.at hcc
              obtain ⟨rfl, rfl⟩ : au = some ⟨g0, 0, none⟩ ∧ cu = cap0 := by
                have := Value.slice.inj hgs
                exact ⟨this.1, this.2.2⟩
              have hrow : wi.rangeAt g0 (k * 2) [.int .u64 cc.1, .bool cc.2] := fun j u hu => by
                match j with
                | 0 => simp at hu; subst hu; exact e1
                | 1 => simp at hu; subst hu; exact e2
                | (j + 2) => simp at hu
              have HROW := Lib.hid hrow
              have HCC := Lib.hid hcc
              have HE1 := Lib.hid e1
              have hmemc := List.mem_of_getElem? hcc
              have hsz : w.heap.size + 1 + 1 < wi.heap.size := GR.out.lt.2.1
              clear hgs e1 e2 e3 e5 hrow hcc
              obtain ⟨cn, cr⟩ := cc
              cases cr with
              | false =>
                have HK4 := Lib.hid ((Kp.refl wi).alloc (.cells #[.int .u64 cn, .bool false] 75))
                go_wp2_with (first
                  | ((with_reducible show wpList _ _ _ (⟨some 48, _, _, _, _, _⟩ :: _) _ _); refine wpList_index_tab (d := 48) _ _ _ rfl 75 Try.underlying72 2 rfl _ _ _ _ 0 (by rfl) rfl k (by rfl) hlt2 ?_; rw [Nat.zero_add])
                  | ((with_reducible show wpList _ _ _ (⟨some 49, _, _, _, _, _⟩ :: _) _ _); refine wpList_load_range (d := 49) _ _ rfl _ Try.underlying75 wi _ _ _ _ (by rfl) rfl rfl _ HROW.out (Kp.refl wi) (by rfl) ?_))
                go_roundw
                case rel =>
                  have h1 := GV.out
                  refine ⟨k + 1, g2, st2, by omega, by go_num, GR.out.keep HK4.out, ⟨h1.nd, h1.mem, h1.rch, fun y => Nat.le_succ_of_le (h1.le y)⟩, GC.out, GI.out, fun j c hj hc hr h0 => ?_⟩
                  by_cases e : j = k
                  · subst e; rw [HCC.out] at hc; cases hc; cases hr
                  · exact GS.out j c (by omega) hc hr h0
                case measure => simp [intOf]; omega
              | true =>
                have hcn : 0 ≤ cn ∧ cn ≤ 65536 := by
                  rcases HK.out.ref b HB.out _ hmemc rfl with h1 | h1
                  · simp at h1; omega
                  · obtain ⟨o, ho, e⟩ := hasN_iff.1 h1
                    have := HK.out.pos o ho
                    simp at e; omega
                obtain ⟨hcn0, hcn1⟩ := hcn
                have hrc : cn = 0 ∨ Rch S l cn := by
                  rcases HK.out.ref b HB.out _ hmemc rfl with h1 | h1
                  · exact .inl h1
                  · exact .inr (.step HB.out (by rw [hbn]; exact GV.out.rch x (by simp)) hmemc h1)
                have HRC := Lib.hid hrc
                have hci : i64 cn := by unfold i64; omega
                clear hrc
                have HK4 := Lib.hid ((Kp.refl wi).alloc (.cells #[.int .u64 cn, .bool true] 75))
                go_wp2_with (first
                  | ((with_reducible show wpList _ _ _ (⟨some 48, _, _, _, _, _⟩ :: _) _ _); refine wpList_index_tab (d := 48) _ _ _ rfl 75 Try.underlying72 2 rfl _ _ _ _ 0 (by rfl) rfl k (by rfl) hlt2 ?_; rw [Nat.zero_add])
                  | ((with_reducible show wpList _ _ _ (⟨some 49, _, _, _, _, _⟩ :: _) _ _); refine wpList_load_range (d := 49) _ _ rfl _ Try.underlying75 wi _ _ _ _ (by rfl) rfl rfl _ HROW.out (Kp.refl wi) (by rfl) ?_)
                  | (go_at_call 56; (with_reducible refine (c_meet cn _ (GR.out.keep HK4.out) hci (hT cn) hn2 hst2).mono ?_); rintro e w5 ⟨rfl, hr5, hs5⟩; have HR5 := Lib.hid hr5; clear hr5))
                go_roundw
                case rel =>
                  obtain ⟨hm1, hm2⟩ := GV.out.meet HRC.out
                  refine ⟨k + 1, gx g2 cn, sx g2 st2 cn, by omega, by go_num, ?_, hm1, GC.out.mono (fun y hy => sx_mem hy), fun r hr h0 => sx_mem (GI.out r hr h0), fun j c hj hc hr h0 => ?_⟩
                  · have := HR5.out
                    rwa [nx_len GV.out] at this
                  · by_cases e : j = k
                    · subst e; rw [HCC.out] at hc; cases hc; exact hm2 h0
                    · exact sx_mem (GS.out j c (by omega) hc hr h0)
                case measure => simp [intOf]; omega
            · have hkk : k = b.cs.length := by omega
              subst hkk
              clear hT
              go_wp2_with fail
              go_roundw
              case rel =>
                refine ⟨po ++ [x], st2, g2, GR.out, ?_, ?_, GI.out⟩
                · have h1 := GV.out
                  exact ⟨h1.nd, h1.mem, h1.rch, fun y => Nat.le_trans (h1.le y) (by rw [hp1]; omega)⟩
                · intro y hy o ho e v hv h0
                  rw [List.mem_append] at hy
                  rcases hy with hy | hy
                  · exact GC.out y hy o ho e v hv h0
                  · simp at hy
                    subst hy
                    obtain rfl := HK.out.uniq ho HB.out (e.trans hbn.symm)
                    obtain ⟨j, hj⟩ := List.mem_iff_getElem?.1 hv
                    exact GS.out j _ (List.getElem?_eq_some_iff.1 hj).1 hj rfl h0
              case measure =>
                have := GR.out.count
                have := GV.out.len
                rw [hp1] at *
                simp at hcount hplen
                omega
end Go.Proofs.Ytkaeigklhdpifaa
