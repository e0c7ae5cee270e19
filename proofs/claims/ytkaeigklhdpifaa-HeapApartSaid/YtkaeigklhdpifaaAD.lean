/- A copy: the walk. Condition: the heap lies in memory. -/
import Derived.Test.YtkaeigklhdpifaaAC
import Derived.OpenShut
namespace Go.Proofs.Ytkaeigklhdpifaa
open Go.RowKit Go.Maps Go.Sort
set_option linter.unusedVariables false
set_option linter.unusedSimpArgs false
theorem own_weak {w : World} {B n m : Nat} {e : TypeId} {v : Value} {xs : List Value} (h : w.ownsRow B e m v n xs) : w.ownsRow 0 e m v n xs := by
  obtain ⟨hl, hv | ⟨gb, cap, cur, rfl, hB, rest⟩⟩ := h
  · exact ⟨hl, .inl hv⟩
  · exact ⟨hl, .inr ⟨gb, cap, cur, rfl, Nat.zero_le _, rest⟩⟩
theorem iter_obj {H : Type} {R : Value → Option (DataW H × List MemPlace)} {w : World} {b r n cnt : Nat} {D : DataW H} {left : Lit → Bool} (h : w.ranges Try.prog 3 R b r n D left cnt) : ∃ a b c d, w.heap[r]? = some (.mapIter a b c d) := by
  obtain ⟨_, _, _, _, _, _, _, _, _, h5, _⟩ := h
  exact ⟨_, _, _, _, h5⟩
/-- The iterator's step turns nothing of the copy. -/
theorem CW.step {w wr w' : World} {p mn bud it mb n cnt : Nat} {tk : Int} {S : Hs} {left lf : Lit → Bool} {D : DV} (h : CW w wr p mn bud tk S left) (hg : wr.grownBy w' (some it)) (hr : wr.ranges Try.prog 3 RS mb it n D lf cnt) (hit : w.heap.size ≤ it) : CW w w' p mn bud tk S left := by
  obtain ⟨a, b, c, d, ho⟩ := iter_obj hr
  obtain ⟨D, F, h1, h2, h3⟩ := h.mp
  obtain ⟨es, cl, hes⟩ := h1.obj
  have hm : mn ≠ it := fun e => by subst e; rw [hes] at ho; cases ho
  have hp : p ≠ it := fun e => by subst e; rw [h.box] at ho; cases ho
  refine ⟨⟨D, F, h1.turn (hg.block mn (row_lt hes) (fun e => hm (by simpa using e))), h2, ⟨h3.dom, fun o hoS => ?_, fun k v g x y => ⟨Blk.mono hg.size g (h3.inN k v g x y).1, (h3.inN k v g x y).2⟩, h3.ap⟩⟩, (hg.block p (row_lt h.box) (fun e => hp (by simpa using e))).trans h.box, h.kp.grown hg (fun k e => by cases e; exact hit), h.hp, h.hm, h.ne⟩
  obtain ⟨v, hv1, hv2⟩ := h3.ob o hoS
  refine ⟨v, hv1, hv2.turn (fun g hgv => ?_)⟩
  obtain ⟨cur, hcur⟩ := own_cells hv2 hgv
  exact hg.block g (row_lt hcur) (fun e => by
    have : g = it := by simpa using e
    subst this; rw [hcur] at ho; cases ho)
set_option maxHeartbeats 2000000 in
set_option maxRecDepth 100000 in
theorem c_Copy {N : Nat → Prop} {p bud : Nat} {S : Hs} (w : World) (h : HP w N p bud S) (ok : Ok S bud) :
    Calls Try.prog 13 #[.pointer (some ⟨p, 0, none⟩)] w fun e w' => ∃ p' N', e = .returned (.pointer (some ⟨p', 0, none⟩)) ∧ HP w' N' p' bud S ∧ (∀ k, N' k → w.heap.size ≤ k) ∧ Kp w w' := by
  have hmm := @run_makeMap Try.prog
  have HK := Lib.hid ok
  obtain ⟨np, lt, tk, mb, DS, F, q1, q2, q3, q4, q5, q6, q7, q8⟩ := h
  obtain ⟨c0, c1, c2, c3⟩ := row4 q1
  have hpz := lt p np
  have hmbz : mb < w.heap.size := lt mb q2
  have Q1 := Lib.hid q1
  have Q4 := Lib.hid q4
  have Q5 := Lib.hid q5
  have Q6 := Lib.hid q6
  have Q8 := Lib.hid q8
  have HLT := Lib.hid lt
  clear q1 q2 q3 q4 q5 q6 q7 q8 np lt ok
  go_enter Try.func13, Try.ntmps13
  go_upto_region 5 with fail
  obtain ⟨w1, hw1⟩ : ∃ w1, w1 = (w.alloc (.cells #[.int .i64 (bud : Int), .int .i64 (used S : Int), .int .i64 tk, .map (some (w.heap.size + 1))] 71)).alloc (.map #[] 0) := ⟨_, rfl⟩
  have hk1 : Kp w w1 := by rw [hw1]; exact ((Kp.refl w).alloc _).alloc _
  have hs1 : w.heap.size + 1 < w1.heap.size := by rw [hw1]; simp
  have hb1 : w1.heap[w.heap.size]? = some (.cells #[.int .i64 (bud : Int), .int .i64 (used S : Int), .int .i64 tk, .map (some (w.heap.size + 1))] 71 (0, 0)) := by
    rw [hw1]
    exact row_keep ((Kp.refl _).alloc _) (heap_at rfl)
  have hm1 : OM RS w1 (w.heap.size + 1) (.map []) := by
    rw [hw1]
    have := OM.of (World.ownsMap_made (w.alloc (.cells #[.int .i64 (bud : Int), .int .i64 (used S : Int), .int .i64 tk, .map (some (w.heap.size + 1))] 71)) Try.prog 3 RS)
    simpa using this
  rw [← hw1]
  have K1 := Lib.hid hk1
  have B1 := Lib.hid hb1
  have M1 := Lib.hid hm1
  have Q5' : Hid (w1.ownsMap Try.prog 3 RS mb (Maps.size DS) DS) := Lib.hid (OM.turn Q5.out (hk1.blk hmbz))
  obtain ⟨c0, c1, c2, c3⟩ := row4 (row_keep hk1 Q1.out)
  have hpz1 : p < w1.heap.size := by omega
  clear hw1 hk1 hb1 hm1
  go_wp2_with (first
    | (at_range; refine wpList_range_own _ rfl _ 69 rfl 3 72 KI Try.underlying69 RS mb _ DS rfl Q5'.out ?_; intro w2 hrg hg2 hs2; have HRG := Lib.hid hrg; have HG2 := Lib.hid hg2; clear hrg hg2)
    | go_in)
  have HCW : Hid (CW w w2 w.heap.size (w.heap.size + 1) bud tk S (Maps.has DS)) := Lib.hid (by
    have hk2 : Kp w1 w2 := (Kp.refl w1).grown HG2.out (fun k e => by cases e)
    have hd : doneF S (Maps.has DS) = [] := done_start (fun o ho => by rw [Q6.out.hs, Q8.out.dom]; exact hasN_mem ho)
    exact CW.keep ⟨⟨.map [], fun _ => none, M1.out, MapIs.empty, by rw [hd]; exact ⟨fun k => rfl, fun o ho => (by cases ho), fun k v g h => (by cases h), fun j k u v g _ h => (by cases h)⟩⟩, B1.out, K1.out, Nat.le_refl _, by omega, by omega⟩ hk2)
  have hz2 : w1.heap.size < w2.heap.size := by omega
  clear c0 c1 c2 c3
  go_frame
  go_loopw [] (fun wr => ∃ (left : Lit → Bool) (cnt : Nat), wr.ranges Try.prog 3 RS mb w1.heap.size (Maps.size DS) DS left cnt ∧ CW w wr w.heap.size (w.heap.size + 1) bud tk S left ∧ (∀ x, left (.int .i64 x) = true → hasN S x = true) ∧ w2.heap.size ≤ wr.heap.size) (fun wr => wr.rangeLeft mb w1.heap.size)
  case atStart => exact ⟨_, _, HRG.out, HCW.out, fun x hx => by rw [Q6.out.hs, Q8.out.dom] at hx; exact hx, Nat.le_refl _⟩
  case round =>
    obtain ⟨left, cnt, hrg, hcw, hlf, hzr⟩ := hrel
    have HR := Lib.hid hrg
    have HC := Lib.hid hcw
    have HLF := Lib.hid hlf
    clear hrg hcw hlf
    go_wp2_with (first
      | (at_next; refine wpList_next_ranges _ rfl _ rfl 3 KI RS encZ id (fun key kl hk => by obtain ⟨x, hx, _⟩ := Maps.keyOf_i64 Try.underlying3 hk; exact ⟨x, hx⟩) (fun v _ _ => ⟨v, rfl⟩) mb w1.heap.size _ DS left cnt rfl HR.out ?_ ?_)
      | go_in)
    · intro hc0 hl0
      go_wp2
      go_ret
      have hd : doneF S left = S := done_end hl0
      obtain ⟨D, F', m1, m2, m3⟩ := HC.out.mp
      rw [hd] at m3
      have hsz : Maps.size D = S.length := by
        have := size_of_keys m1 (l := S.map (·.nm)) (List.Pairwise.imp (fun h => by omega) HK.out.names) (fun k => by rw [m2.hs, m3.dom, hasN_names])
        simpa using this
      exact ⟨_, _, rfl, ⟨⟨by omega, row_lt HC.out.box⟩, fun k hk => hk.2, tk, _, D, F', HC.out.box, ⟨by omega, (m1.obj |>.elim fun es h => h.elim fun c h => row_lt h)⟩, by omega, Q4.out, m1, m2, hsz, m3⟩, fun k hk => hk.1, HC.out.kp⟩
    · intro x c kl yd yp w3 cnt2 hkey hlk hv hat hrg2 hlt hg3 hs3 hen
      obtain ⟨x', ex, rfl, hwx⟩ := Maps.keyOf_i64 Try.underlying3 hkey
      obtain rfl : x = x' := encZ_inj ex
      have hi : i64 x := bounds_i64 hwx
      obtain ⟨⟨a, n, cc, rfl⟩, hy⟩ := RS_inv hv
      have hyd : yd = .held (.slice a n cc) := congrArg Prod.fst hy
      have hhas : Maps.has DS (.int .i64 x) = true := has_true_of_atKey hat
      have hFx : F x = some (.slice a n cc) := by
        have h1 := Q6.out.hs x
        rw [hhas] at h1
        obtain ⟨u, hu⟩ := Option.isSome_iff_exists.1 h1.symm
        have h2 := Q6.out.at' x u hu (.lit (.int .i64 0))
        rw [hat, hyd] at h2
        cases h2
        exact hu
      have hmem : hasN S x = true := by rw [← Q8.out.dom, hFx]; rfl
      obtain ⟨o, ho, hox⟩ := hasN_iff.1 hmem
      obtain ⟨v', h1, hcvo⟩ := Q8.out.ob o ho
      rw [hox, hFx] at h1
      cases h1
      have hno : n = o.cs.length := by
        obtain ⟨a', c', he⟩ := hcvo.slice
        cases he; rfl
      subst hno
      have hol : o.cs.length ≤ 65536 := by have := used_mem ho; have := HK.out.fit; have := HK.out.bud; omega
      have hnd : hasN (doneF S left) x = false := by
        rw [hasN_false]
        intro y hy e
        have := (List.mem_filter.1 hy).2
        rw [e, hlk] at this
        cases this
      have HC3 := Lib.hid (HC.out.step hg3 HR.out (by omega))
      have HRG3 := Lib.hid hrg2
      have HLT2 := Lib.hid hlt
      have HHO := Lib.hid ho
      have HND := Lib.hid hnd
      have hz3 : wr.heap.size ≤ w3.heap.size := hg3.size
      have HCV := Lib.hid (hcvo.turn (fun g hg => HC3.out.kp.blk (HLT.out g (Q8.out.inN _ _ g hFx hg).1)))
      have HGB := Lib.hid (fun g (hg : (Value.slice a o.cs.length cc).ownBlock = some g) => HLT.out g (Q8.out.inN _ _ g hFx hg).1)
      have hbx := HC3.out.box
      obtain ⟨d0, d1, d2, d3⟩ := row4 hbx
      have hbz := row_lt hbx
      obtain ⟨DN, FN, m1, m2, m3⟩ := HC3.out.mp
      have M1' := Lib.hid m1
      have M2' := Lib.hid m2
      have M3' := Lib.hid m3
      have hsn : Maps.size DN ≤ 65536 := by
        have := size_of_keys m1 (l := (doneF S left).map (·.nm)) (List.Pairwise.imp (fun h => by omega) (List.pairwise_map.2 (HK.out.sub _ : (doneF S left).Pairwise _))) (fun k => by rw [m2.hs, m3.dom, hasN_names])
        have h2 : (doneF S left).length ≤ S.length := List.length_filter_le _ _
        have h3 := HK.out.len
        rw [List.length_map] at this
        omega
      have hmnz : w.heap.size + 1 < w3.heap.size := by obtain ⟨es, c, h⟩ := m1.obj; exact row_lt h
      have HNX := Lib.hid (HLF.out x hlk)
      clear hkey hlk hv hat hrg2 hlt hg3 hs3 hhas hFx hmem ho hy hyd ex hwx hbx m1 m2 m3 hnd hcvo
      go_wp2_with fail
      rcases a with _ | ⟨ga, oa, sa⟩
      · have HL0 : Hid (o.cs.length = 0) := Lib.hid (by
          obtain ⟨_, ⟨he, h0⟩ | ⟨g, cap, cur, he, _⟩⟩ := HCV.out
          · exact h0
          · cases he)
        go_region_law (refine step_go (by rfl) (step_call (f := 31) (by rfl) Try.func31 (by kernel_rfl) (by kernel_rfl) (by simp [Act.eval, Act.put]) ((c_CloneN o.cs.length cc _).mono ?_)); rintro e w5 ⟨rfl, hw5⟩; refine ⟨_, rfl, ?_⟩; have U3 : Hid (Kp w3 w5) := Lib.hid (by rw [hw5]; exact (Kp.refl _).drew); have U1 : Hid (CV w5 o.cs (.slice none 0 0)) := Lib.hid (by have : o.cs = [] := List.eq_nil_of_length_eq_zero HL0.out; rw [this]; exact ⟨rfl, .inl ⟨rfl, rfl⟩⟩); have U2 : Hid (∀ g, (Value.slice none 0 0).ownBlock = some g → w3.heap.size ≤ g ∧ g < w5.heap.size) := Lib.hid (fun g hg => by cases hg); obtain ⟨w6, hrun6, ho6, ht6⟩ := store_obj (w := w5) (M1'.out.turn (U3.out.blk hmnz)) hsn hi none 0 0; obtain ⟨d0, d1, d2, d3⟩ := row4 (row_keep U3.out HC3.out.box); have O6 := Lib.hid ho6; have G6 := Lib.hid ht6; clear ho6 ht6 hw5)
        all_goals
          have hadd := CW.add (w := w) (w5 := w5) (z := w3.heap.size) HK.out HHO.out hox U3.out.sz (Nat.le_of_lt (by omega)) O6.out M2'.out (M3'.out.turn (w' := w5) (fun g hg _ _ => U3.out.blk hg.2)) HND.out (row_keep U3.out HC3.out.box) (HC3.out.kp.trans U3.out) HC3.out.hp HC3.out.hm HC3.out.ne (by omega) hmnz U1.out U2.out G6.out
          have hrg6 := (HRG3.out.kept (w' := w5) (row := none) ⟨U3.out.os, U3.out.tape, U3.out.output, U3.out.size, fun k hk _ => U3.out.blk hk⟩ (by simp) (by simp)).kept G6.out (fun e => by have := Option.some.inj e; omega) (fun e => by have := Option.some.inj e; omega)
          have hz6 := G6.out.size
          have hz5 := U3.out.sz
          clear hrun6
          go_wp2_with fail
          refine ⟨⟨_, cnt2, hrg6, hadd, fun y hy => HLF.out y ?_, by omega⟩, ?_⟩
          · rw [Bool.and_eq_true] at hy
            exact hy.1
          · rw [hrg6.left_eq, HR.out.left_eq]
            exact HLT2.out
      · have HSA : Hid (oa = 0 ∧ sa = none) := Lib.hid (by
          obtain ⟨_, ⟨he, h0⟩ | ⟨g, cap, cur, he, _⟩⟩ := HCV.out
          · cases he
          · cases he; exact ⟨rfl, rfl⟩)
        obtain ⟨rfl, rfl⟩ := HSA.out
        have hol2 : o.cs.length ≤ 262146 := by omega
        go_region_law (refine step_go (by rfl) (step_call (f := 31) (by rfl) Try.func31 (by kernel_rfl) (by kernel_rfl) (by simp [Act.eval, Act.put]) ((c_Clone ga 0 o.cs.length cc (cellsV o.cs) _ (cellsV_len _) hol2 (HCV.out.turn (w' := w3.drew) (fun g _ => rfl)).cells (cellsV_one _)).mono ?_)); rintro e w5 ⟨u, rfl, hu1, hun, hk5⟩; refine ⟨_, rfl, ?_⟩; obtain ⟨au, cu, hsl⟩ := own_slice hu1; subst hsl; have U3 : Hid (Kp w3 w5) := Lib.hid ((Kp.refl _).drew.trans hk5); have U1 : Hid (CV w5 o.cs (.slice au o.cs.length cu)) := Lib.hid (own_weak hu1); have U2 : Hid (∀ g, (Value.slice au o.cs.length cu).ownBlock = some g → w3.heap.size ≤ g ∧ g < w5.heap.size) := Lib.hid (fun g hg => hu1.lt g hg); obtain ⟨w6, hrun6, ho6, ht6⟩ := store_obj (w := w5) (M1'.out.turn (U3.out.blk hmnz)) hsn hi au o.cs.length cu; obtain ⟨d0, d1, d2, d3⟩ := row4 (row_keep U3.out HC3.out.box); have O6 := Lib.hid ho6; have G6 := Lib.hid ht6; clear ho6 ht6 hu1 hk5 hun)
        all_goals
          have hadd := CW.add (w := w) (w5 := w5) (z := w3.heap.size) HK.out HHO.out hox U3.out.sz (Nat.le_of_lt (by omega)) O6.out M2'.out (M3'.out.turn (w' := w5) (fun g hg _ _ => U3.out.blk hg.2)) HND.out (row_keep U3.out HC3.out.box) (HC3.out.kp.trans U3.out) HC3.out.hp HC3.out.hm HC3.out.ne (by omega) hmnz U1.out U2.out G6.out
          have hrg6 := (HRG3.out.kept (w' := w5) (row := none) ⟨U3.out.os, U3.out.tape, U3.out.output, U3.out.size, fun k hk _ => U3.out.blk hk⟩ (by simp) (by simp)).kept G6.out (fun e => by have := Option.some.inj e; omega) (fun e => by have := Option.some.inj e; omega)
          have hz6 := G6.out.size
          have hz5 := U3.out.sz
          clear hrun6
          go_wp2_with fail
          refine ⟨⟨_, cnt2, hrg6, hadd, fun y hy => HLF.out y ?_, by omega⟩, ?_⟩
          · rw [Bool.and_eq_true] at hy
            exact hy.1
          · rw [hrg6.left_eq, HR.out.left_eq]
            exact HLT2.out
end Go.Proofs.Ytkaeigklhdpifaa
