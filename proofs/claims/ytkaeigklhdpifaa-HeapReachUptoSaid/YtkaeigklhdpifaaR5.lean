/- What is reached, by the reference: the walk. Condition: the heap lies in memory. -/
import Derived.Test.YtkaeigklhdpifaaR4
namespace Go.Proofs.Ytkaeigklhdpifaa
open Go.RowKit Go.Maps Go.Sort
set_option linter.unusedVariables false
set_option linter.unusedSimpArgs false
theorem nm_inj {S : Hs} {bud : Nat} (ok : Ok S bud) {i j : Nat} {a b : Ob} (hi : S[i]? = some a) (hj : S[j]? = some b) (e : a.nm = b.nm) : i = j := by
  rcases Nat.lt_trichotomy i j with h1 | h1 | h1
  · have := up_lt ok.up hi hj h1; omega
  · exact h1
  · have := up_lt ok.up hj hi h1; omega
def b1 (m : Bool) : Nat := if m then 1 else 0
theorem fls_next {ob : List Bool} {i n : Nat} {m : Bool} (h : ob[i]? = some false) (hf : fls ob + b1 m ≤ n) : fls (ob.set i true) + b1 true ≤ n := by
  have := fls_set h
  have h1 : b1 true = 1 := rfl
  omega
theorem ClI.next {S : Hs} {ob : List Bool} {i c : Nat} {o : Ob} (h : ClI S ob i c) (ho : S[i]? = some o) (hn : ∀ v, o.cs[c]? = some (v, true) → ∀ (i' : Nat) (o' : Ob), S[i']? = some o' → o'.nm = v → ob[i']? = some true) : ClI S ob i (c + 1) := by
  intro hb o2 ho2 j v hj hv i' o' hi' e
  rw [ho] at ho2; cases ho2
  by_cases ej : j = c
  · subst ej; exact hn v hv i' o' hi' e
  · exact h hb o ho j v (by omega) hv i' o' hi' e
theorem ClA.next {S : Hs} {ob : List Bool} {i : Nat} {o : Ob} (h : ClA S ob i) (ho : S[i]? = some o) (hi : ClI S ob i o.cs.length) : ClA S ob (i + 1) := by
  intro j hj o2 ho2
  by_cases e : j = i
  · subst e; rw [ho] at ho2; cases ho2; exact hi
  · exact h j (by omega) o2 ho2
theorem fls_le (ob : List Bool) : fls ob ≤ ob.length := List.countP_le_length
set_option maxHeartbeats 4000000 in
set_option maxRecDepth 100000 in
theorem c_Reached {M : Nat → Prop} {q bud : Nat} {S : Hs} (l : List Int) (v : Value) (B : Sel) (w : World) (h : RP w M q bud S) (ok : Ok S bud) (hl : IL w B l v) (hkn : knownR S l = true) :
    Calls Try.prog 37 #[.pointer (some ⟨q, 0, none⟩), v] w fun e w' => ∃ g, e = .returned (.slice (some ⟨g, 0, none⟩) S.length S.length) ∧ OnR w w' S.length (S.map fun o => rc S l o.nm) g := by
  obtain ⟨ad, cr, C, rfl, hlcr, hby, hC, htab, hx⟩ := hl
  have HH := Lib.hid h
  have HK := Lib.hid ok
  have HT := Lib.hid htab
  have HX := Lib.hid hx
  have HKN := Lib.hid hkn
  have hqz := h.lt q h.nq
  have hSl := ok.len
  obtain ⟨a, c, cv, rv, h1, hlc, _, _, ht, hro⟩ := h.list
  have H1 := Lib.hid h1
  have HTB := Lib.hid ht
  have HRO := Lib.hid hro
  obtain ⟨c0, c1⟩ := row2 h1
  obtain ⟨iB, hIB, hB0, hB1, hB2⟩ := info_parts infoBo
  have hsz1 := hSl
  clear h ok htab hx hC hkn h1 ht hro
  go_enter Try.func37, Try.ntmps37
  go_wp2_with (first | (at_make; refine wpList_make_full _ rfl _ _ 32 rfl 0 4 iB _ 1 Try.underlying32 hIB hB0 hB1 _ _ _ _ S.length (by rfl) (by rfl) rfl rfl (by rw [hB2]; omega) (by unfold maxLen; omega) (by omega) ?_; intro w1 ho hg; have HO := Lib.hid ho; have HG := Lib.hid hg; clear ho hg) | go_in)
  have HON : Hid (OnR w w1 S.length (List.replicate S.length false) w.heap.size) := Lib.hid (by
    have h1 := HO.out
    have hm : (madeCells (Value.bool false).cells (S.length * 1)).toList = boV (List.replicate S.length false) := by
      unfold boV
      rw [List.map_replicate, Nat.mul_one]
      exact toList_madeCells_one _ _
    rw [hm] at h1
    refine ⟨?_, by simp, Nat.le_refl _, (Kp.refl w).grown HG.out (fun k e => by cases e)⟩
    unfold NV
    rw [boV_len, List.length_replicate]
    exact h1)
  clear HO HG c0 c1
  go_loopw [6] (fun i wr => ∃ (k : Nat) (ob : List Bool), k ≤ l.length ∧ i = .int .i64 (k : Int) ∧ OnR w wr S.length ob w.heap.size ∧ Snd S l ob ∧ Rts S (l.take k) ob) (fun i _ => l.length - (intOf i).toNat)
  case atStart =>
    refine ⟨0, _, by omega, rfl, HON.out, ⟨by simp, fun i o hi => ?_⟩, fun r hr => by simp at hr⟩
    rw [List.getElem?_replicate] at hi
    split at hi <;> cases hi
  case round =>
    obtain ⟨k, ob, hk, rfl, hon, hsd, hrt⟩ := hrel
    have ON := Lib.hid hon
    have SD := Lib.hid hsd
    have RT := Lib.hid hrt
    clear hon hsd hrt
    by_cases hlt : k < l.length
    · obtain ⟨r, hr⟩ : ∃ r, l[k]? = some r := ⟨_, List.getElem?_eq_getElem hlt⟩
      obtain ⟨hcr, hir⟩ := HX.out k r hr
      obtain ⟨b, z, rfl, hrg⟩ := (HT.out.keep ON.out.kp).at (by omega)
      have hrk := hrg k hlt
      rw [hcr] at hrk
      have e0 : wr.cell? ⟨b, z + k * 1, none⟩ = some (.int .i64 r) := rangeAt_head hrk
      rw [Nat.mul_one] at e0
      have ez := lt_of_cell e0
      dsimp only at ez
      have HR := Lib.hid hr
      have HIR := Lib.hid hir
      have HW := Lib.hid (HH.out.keep ON.out.kp)
      clear hrk hrg hcr hr hir
      rcases atI_cases HK.out r with ⟨hh, ha⟩ | ⟨hh, i, o, hio, hon, ha, hgo⟩
      · have HA := Lib.hid ha
        have HHN := Lib.hid hh
        clear ha hh
        go_wp2_with (go_at_call 20; (with_reducible refine (c_At _ wr HW.out HK.out HIR.out).mono ?_); rintro e w' ⟨rfl, hw'⟩; subst hw'; rw [HA.out])
        go_roundw
        case rel =>
          refine ⟨k + 1, ob, by omega, by go_num, ON.out, SD.out, fun y hy i o hi e => ?_⟩
          rw [List.take_add_one, HR.out, List.mem_append] at hy
          rcases hy with hy | hy
          · exact RT.out y hy i o hi e
          · simp at hy
            subst hy
            exact absurd e (hasN_false.1 HHN.out o (List.mem_of_getElem? hi))
        case measure => simp [intOf]; omega
      · have hil : i < S.length := (List.getElem?_eq_some_iff.1 hio).1
        have HA := Lib.hid ha
        have HIO := Lib.hid hio
        have HON2 := Lib.hid hon
        have HHN := Lib.hid hh
        obtain ⟨bv, hbv⟩ : ∃ bv, ob[i]? = some bv := ⟨_, List.getElem?_eq_getElem (by rw [ON.out.len]; exact hil)⟩
        obtain ⟨y0, yf, yz⟩ := ON.out.at hbv
        clear ha hio hon hh hgo hbv
        go_wp2_with (go_at_call 20; (with_reducible refine (c_At _ wr HW.out HK.out HIR.out).mono ?_); rintro e w' ⟨rfl, hw'⟩; subst hw'; rw [HA.out])
        go_roundw
        case rel =>
          refine ⟨k + 1, ob.set i true, by omega, by go_num, ON.out.set hil, SD.out.set HIO.out (by rw [HON2.out]; exact .root (List.mem_of_getElem? HR.out) HHN.out), fun y hy i2 o2 hi2 e => ?_⟩
          rw [List.take_add_one, HR.out, List.mem_append] at hy
          rcases hy with hy | hy
          · exact set_keep (RT.out y hy i2 o2 hi2 e)
          · simp at hy
            subst hy
            have hoo := HK.out.uniq (List.mem_of_getElem? hi2) (List.mem_of_getElem? HIO.out) (e.trans HON2.out.symm)
            have hii : i2 = i := by
              rcases Nat.lt_trichotomy i2 i with h1 | h1 | h1
              · have := up_lt HK.out.up hi2 HIO.out h1; rw [hoo] at this; omega
              · exact h1
              · have := up_lt HK.out.up HIO.out hi2 h1; rw [hoo] at this; omega
            subst hii
            exact List.getElem?_set_self (by rw [ON.out.len]; exact hil)
        case measure => simp [intOf]; omega
    · have hkk : k = l.length := by omega
      subst hkk
      have RTS : Hid (Rts S l ob) := Lib.hid (by have := RT.out; rwa [List.take_of_length_le (Nat.le_refl _)] at this)
      clear RT
      obtain ⟨wq, hwq⟩ : ∃ wq, wq = wr := ⟨_, rfl⟩
      subst hwq
      go_wp2_with fail
      go_loopw [8] (fun mv wr => ∃ (m : Bool) (ob : List Bool), mv = .bool m ∧ OnR w wr S.length ob w.heap.size ∧ Snd S l ob ∧ Rts S l ob ∧ (m = false → ClA S ob S.length)) (fun mv wr => 2 * offN wr w.heap.size S.length + bOf mv)
      case atStart => exact ⟨true, ob, rfl, ON.out, SD.out, RTS.out, fun h => by cases h⟩
      case round =>
        obtain ⟨m, ob, rfl, hon, hsd, hrt, hcl⟩ := hrel
        have ON := Lib.hid hon
        have SD := Lib.hid hsd
        have RT := Lib.hid hrt
        have CL := Lib.hid hcl
        have hoff := hon.nv.off hon.len.symm
        clear hon hsd hrt hcl
        cases m with
        | false =>
          go_wp2_with fail
          go_ret
          have := on_all HK.out SD.out RT.out (CL.out (by first | rfl | trivial))
          rw [← this]
          exact ⟨_, rfl, ON.out⟩
        | true =>
          obtain ⟨wt, hwt⟩ : ∃ wt, wt = wr := ⟨_, rfl⟩
          subst hwt
          go_wp2_with fail
          go_loopw [8, 9] (fun mv iv wr => ∃ (m2 : Bool) (i : Nat) (ob2 : List Bool), mv = .bool m2 ∧ iv = .int .i64 (i : Int) ∧ i ≤ S.length ∧ OnR w wr S.length ob2 w.heap.size ∧ Snd S l ob2 ∧ Rts S l ob2 ∧ (m2 = false → ClA S ob2 i) ∧ fls ob2 + b1 m2 ≤ fls ob) (fun _ iv _ => S.length - (intOf iv).toNat)
          case atStart => exact ⟨false, 0, ob, rfl, rfl, by omega, ON.out, SD.out, RT.out, fun _ i hi => by omega, Nat.le_refl _⟩
          case round =>
            obtain ⟨m2, i, ob2, rfl, rfl, hi, hon2, hsd2, hrt2, hcl2, hf2⟩ := hrel
            have ON2 := Lib.hid hon2
            have SD2 := Lib.hid hsd2
            have RT2 := Lib.hid hrt2
            have CL2 := Lib.hid hcl2
            have d0 := (row2 (row_keep hon2.kp H1.out)).1
            have hzz := hon2.kp.sz
            have hof2 := Lib.hid (hon2.nv.off hon2.len.symm)
            clear hon2 hsd2 hrt2 hcl2
            by_cases hil : i < S.length
            · obtain ⟨o, hio⟩ : ∃ o, S[i]? = some o := ⟨_, List.getElem?_eq_getElem hil⟩
              have HIO := Lib.hid hio
              have hol : o.cs.length ≤ 65536 := by have := used_mem (List.mem_of_getElem? hio); have := HK.out.fit; have := HK.out.bud; omega
              clear hio
              go_wp2_with fail
              go_loopw [8, 10] (fun mv cv' wr => ∃ (m3 : Bool) (cN : Nat) (ob3 : List Bool), mv = .bool m3 ∧ cv' = .int .i64 (cN : Int) ∧ cN ≤ o.cs.length ∧ OnR w wr S.length ob3 w.heap.size ∧ Snd S l ob3 ∧ Rts S l ob3 ∧ (m3 = false → ClA S ob3 i ∧ ClI S ob3 i cN) ∧ fls ob3 + b1 m3 ≤ fls ob) (fun _ cv' _ => o.cs.length - (intOf cv').toNat)
              case atStart => exact ⟨m2, 0, ob2, rfl, rfl, by omega, ON2.out, SD2.out, RT2.out, fun hm => ⟨CL2.out hm, fun _ _ _ j v hj => by omega⟩, hf2⟩
              case round =>
                obtain ⟨m3, cN, ob3, rfl, rfl, hcN, hon3, hsd3, hrt3, hcl3, hf3⟩ := hrel
                obtain ⟨wi, hwi⟩ : ∃ wi, wi = wr := ⟨_, rfl⟩
                subst hwi
                have ON3 := Lib.hid hon3
                have SD3 := Lib.hid hsd3
                have RT3 := Lib.hid hrt3
                have CL3 := Lib.hid hcl3
                have d0 := (row2 (row_keep hon3.kp H1.out)).1
                have hzw := hon3.kp.sz
                obtain ⟨bi, hbi⟩ : ∃ bi, ob3[i]? = some bi := ⟨_, List.getElem?_eq_getElem (by rw [hon3.len]; exact hil)⟩
                obtain ⟨y0, _, yz⟩ := hon3.at hbi
                have HBI := Lib.hid hbi
                clear hon3 hsd3 hrt3 hcl3 hbi
                cases bi with
                | false =>
                  go_wp2_with fail
                  go_roundw
                  case rel => exact ⟨m3, i + 1, ob3, (by first | rfl | trivial), by go_num, by omega, ON3.out, SD3.out, RT3.out, fun hm => (CL3.out hm).1.next HIO.out (fun hb => by rw [HBI.out] at hb; cases hb), hf3⟩
                  case measure => simp [intOf]; omega
                | true =>
                  have htab := HTB.out.keep ON3.out.kp
                  obtain ⟨bl, z, rfl, e0, e1, e2, ez⟩ := htab.obj HIO.out
                  obtain ⟨hn, hr⟩ := HRO.out.ob o (List.mem_of_getElem? HIO.out)
                  obtain ⟨an, pn, hvn⟩ := hn.slice
                  obtain ⟨ar, pr, hvr⟩ := hr.slice
                  rw [numsV_len] at hvn
                  rw [refsV_len] at hvr
                  by_cases hcl : cN < o.cs.length
                  · obtain ⟨cc, hcc⟩ : ∃ cc, o.cs[cN]? = some cc := ⟨_, List.getElem?_eq_getElem hcl⟩
                    obtain ⟨g1, p1, hv1, f1, _, y1, _⟩ := hn.at (numsV_at hcc)
                    obtain ⟨g2, p2, hv2, f2, _, y2, _⟩ := hr.at (refsV_at hcc)
                    rw [numsV_len] at hv1
                    rw [refsV_len] at hv2
                    rw [hv1] at e1
                    rw [hv2] at e2
                    have f1 := ON3.out.kp.cellv f1
                    have f2 := ON3.out.kp.cellv f2
                    have HCC := Lib.hid hcc
                    have hmem := List.mem_of_getElem? hcc
                    have HW3 := Lib.hid (HH.out.keep ON3.out.kp)
                    obtain ⟨vv, vr⟩ := cc
                    clear hn hr hvn hvr hv1 hv2 hcc htab
                    cases vr with
                    | false =>
                      go_wp2_with fail
                      go_roundw
                      case rel => exact ⟨m3, cN + 1, ob3, (by first | rfl | trivial), by go_num, by omega, ON3.out, SD3.out, RT3.out, fun hm => ⟨(CL3.out hm).1, (CL3.out hm).2.next HIO.out (fun v hv => by rw [HCC.out] at hv; cases hv)⟩, hf3⟩
                      case measure => simp [intOf]; omega
                    | true =>
                      have hvb : 0 ≤ vv ∧ vv ≤ 65536 := by
                        rcases HK.out.ref o (List.mem_of_getElem? HIO.out) _ hmem rfl with h1 | h1
                        · simp at h1; omega
                        · obtain ⟨o2, ho2, e⟩ := hasN_iff.1 h1
                          have := HK.out.pos o2 ho2
                          simp at e; omega
                      obtain ⟨hv0, hv1⟩ := hvb
                      have hvi : i64 vv := by unfold i64; omega
                      rcases atI_cases HK.out vv with ⟨hh, ha⟩ | ⟨hh, k2, o2, hk2, hn2, ha, _⟩
                      · have HAV := Lib.hid ha
                        have HHN := Lib.hid hh
                        clear ha hh
                        go_wp2_with (go_at_call 20; (with_reducible refine (c_At vv wi HW3.out HK.out hvi).mono ?_); rintro e w' ⟨rfl, hw'⟩; subst hw'; rw [HAV.out])
                        go_roundw
                        case rel => exact ⟨m3, cN + 1, ob3, (by first | rfl | trivial), by go_num, by omega, ON3.out, SD3.out, RT3.out, fun hm => ⟨(CL3.out hm).1, (CL3.out hm).2.next HIO.out (fun v hv i' o' hi' e => by rw [HCC.out] at hv; cases hv; exact absurd e (hasN_false.1 HHN.out o' (List.mem_of_getElem? hi')))⟩, hf3⟩
                        case measure => simp [intOf]; omega
                      · have HAV := Lib.hid ha
                        have HK2 := Lib.hid hk2
                        have HN2 := Lib.hid hn2
                        have hk2l : k2 < S.length := (List.getElem?_eq_some_iff.1 hk2).1
                        have HRC : Hid (Rch S l o2.nm) := Lib.hid (by rw [hn2]; exact .step (List.mem_of_getElem? HIO.out) (SD3.out.2 i o HBI.out HIO.out) hmem hh)
                        obtain ⟨bk, hbk⟩ : ∃ bk, ob3[k2]? = some bk := ⟨_, List.getElem?_eq_getElem (by rw [ON3.out.len]; exact hk2l)⟩
                        obtain ⟨x0, xf, xz⟩ := ON3.out.at hbk
                        have HBK := Lib.hid hbk
                        clear ha hh hk2 hn2 hbk
                        cases bk with
                        | true =>
                          go_wp2_with (go_at_call 20; (with_reducible refine (c_At vv wi HW3.out HK.out hvi).mono ?_); rintro e w' ⟨rfl, hw'⟩; subst hw'; rw [HAV.out])
                          go_roundw
                          case rel => exact ⟨m3, cN + 1, ob3, (by first | rfl | trivial), by go_num, by omega, ON3.out, SD3.out, RT3.out, fun hm => ⟨(CL3.out hm).1, (CL3.out hm).2.next HIO.out (fun v hv i' o' hi' e => by rw [HCC.out] at hv; cases hv; rw [nm_inj HK.out hi' HK2.out (e.trans HN2.out.symm)]; exact HBK.out)⟩, hf3⟩
                          case measure => simp [intOf]; omega
                        | false =>
                          go_wp2_with (go_at_call 20; (with_reducible refine (c_At vv wi HW3.out HK.out hvi).mono ?_); rintro e w' ⟨rfl, hw'⟩; subst hw'; rw [HAV.out])
                          go_roundw
                          case rel => exact ⟨true, cN + 1, ob3.set k2 true, (by first | rfl | trivial), by go_num, by omega, ON3.out.set hk2l, SD3.out.set HK2.out HRC.out, RT3.out.set k2, fun hm => (by cases hm), fls_next HBK.out hf3⟩
                          case measure => simp [intOf]; omega
                  · rw [hvn] at e1
                    have hce : cN = o.cs.length := by omega
                    subst hce
                    clear hn hr hvn hvr htab
                    go_wp2_with fail
                    go_roundw
                    case rel => exact ⟨m3, i + 1, ob3, (by first | rfl | trivial), by go_num, by omega, ON3.out, SD3.out, RT3.out, fun hm => (CL3.out hm).1.next HIO.out (CL3.out hm).2, hf3⟩
                    case measure => simp [intOf]; omega
            · have hie : i = S.length := by omega
              subst hie
              go_wp2_with fail
              go_roundw
              case rel => exact ⟨m2, ob2, rfl, ON2.out, SD2.out, RT2.out, CL2.out⟩
              case measure =>
                rw [hof2.out, hoff]
                unfold b1 at hf2
                cases m2 <;> simp [bOf] at * <;> omega
end Go.Proofs.Ytkaeigklhdpifaa
