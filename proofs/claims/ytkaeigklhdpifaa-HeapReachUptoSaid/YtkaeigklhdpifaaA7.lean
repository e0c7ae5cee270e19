/- What is not reached goes. Condition: the heap lies in memory. -/
import Derived.Test.YtkaeigklhdpifaaA6
import Derived.OpenShut
import Derived.Laws.BitsLemmas
namespace Go.Proofs.Ytkaeigklhdpifaa
open Go.RowKit Go.Maps Go.Sort
set_option linter.unusedVariables false
set_option linter.unusedSimpArgs false
noncomputable def keepF (S : Hs) (l : List Int) (left : Lit → Bool) : Hs := S.filter fun o => left (.int .i64 o.nm) || rc S l o.nm
theorem sameI (x y : Int) : (Lit.int .i64 x).sameKey (.int .i64 y) = (x == y) := by simp [Lit.sameKey]; rfl
theorem keep_start {S : Hs} {l : List Int} {left : Lit → Bool} (h : ∀ o ∈ S, left (.int .i64 o.nm) = true) : keepF S l left = S := by
  unfold keepF
  rw [List.filter_eq_self]
  intro o ho
  rw [h o ho]; rfl
theorem keep_same {S : Hs} {l : List Int} {left : Lit → Bool} {x : Int} (h : rc S l x = true) : keepF S l (fun z => left z && !z.sameKey (.int .i64 x)) = keepF S l left := by
  unfold keepF
  apply List.filter_congr
  intro o _
  dsimp only
  rw [sameI]
  by_cases e : o.nm = x
  · rw [e, h]; simp
  · have : (o.nm == x) = false := by simpa using e
    rw [this]; simp
theorem keep_del {S : Hs} {l : List Int} {left : Lit → Bool} {x : Int} (h : rc S l x = false) : keepF S l (fun z => left z && !z.sameKey (.int .i64 x)) = (keepF S l left).filter (fun o => !(o.nm == x)) := by
  unfold keepF
  rw [List.filter_filter]
  apply List.filter_congr
  intro o _
  dsimp only
  rw [sameI]
  by_cases e : o.nm = x
  · rw [e, h]; simp
  · have : (o.nm == x) = false := by simpa using e
    rw [this]; simp
theorem keep_end {S : Hs} {l : List Int} {left : Lit → Bool} (h : ∀ kl, left kl = false) : keepF S l left = col S l := by
  unfold keepF col
  apply List.filter_congr
  intro o _
  rw [h]; rfl
theorem keep_mem {S : Hs} {l : List Int} {left : Lit → Bool} {o : Ob} (h : o ∈ keepF S l left) : o ∈ S := (List.mem_filter.1 h).1
theorem Ok.sub {S : Hs} {bud : Nat} (ok : Ok S bud) (f : Ob → Bool) : (S.filter f).Pairwise (fun a b => a.nm < b.nm) := ok.up.filter _
/-- While the map is gone through. -/
structure SW (S : Hs) (l : List Int) (w1 wr : World) (N : Nat → Prop) (p mb it bud n0 : Nat) (left : Lit → Bool) (cnt : Nat) : Prop where
  rg : ∃ D F tk, wr.ranges Try.prog 3 RS mb it n0 D left cnt ∧ MapIs D F ∧ Maps.size D = (keepF S l left).length ∧ HO wr N p mb (keepF S l left) F ∧ wr.heap[p]? = some (.cells #[.int .i64 (bud : Int), .int .i64 (used (keepF S l left) : Int), .int .i64 tk, .map (some mb)] 71 (0, 0)) ∧ Tk (keepF S l left) tk
  tr : Tr N w1 wr
theorem filter_has {S : Hs} {x j : Int} : hasN (S.filter fun o => !(o.nm == x)) j = (hasN S j && !(j == x)) := by
  rw [Bool.eq_iff_iff, Bool.and_eq_true, hasN_iff, hasN_iff]
  constructor
  · rintro ⟨o, ho, rfl⟩
    obtain ⟨h1, h2⟩ := List.mem_filter.1 ho
    exact ⟨⟨o, h1, rfl⟩, h2⟩
  · rintro ⟨⟨o, ho, rfl⟩, h2⟩
    exact ⟨o, List.mem_filter.2 ⟨ho, h2⟩, rfl⟩
theorem Tk.drop {S : Hs} {tk x : Int} (h : Tk S tk) (hx : 1 ≤ x) : Tk (S.filter fun o => !(o.nm == x)) (min tk (x - 1)) := by
  obtain ⟨a, b, c⟩ := h
  refine ⟨by omega, by omega, fun j h1 h2 => ?_⟩
  rw [filter_has, c j h1 (by omega)]
  have : (j == x) = false := by simp; omega
  rw [this]; rfl
theorem HO.drop {w : World} {N : Nat → Prop} {p mb : Nat} {S : Hs} {F : Int → Option Value} (h : HO w N p mb S F) (x : Int) : HO w N p mb (S.filter fun o => !(o.nm == x)) (fun j => if j = x then none else F j) := by
  refine ⟨fun k => ?_, fun o ho => ?_, fun k v g hk hg => ?_, fun j k u v g hjk hj hk => ?_⟩
  · rw [filter_has, ← h.dom]
    by_cases e : k = x
    · subst e; simp
    · rw [if_neg e]; have : (k == x) = false := by simpa using e
      rw [this]; simp
  · obtain ⟨h1, h2⟩ := List.mem_filter.1 ho
    obtain ⟨v, h3, h4⟩ := h.ob o h1
    have : o.nm ≠ x := by simpa using h2
    exact ⟨v, by rw [if_neg this]; exact h3, h4⟩
  · split at hk
    · cases hk
    · exact h.inN k v g hk hg
  · split at hj
    · cases hj
    · split at hk
      · cases hk
      · exact h.ap j k u v g hjk hj hk
theorem grownBy_set2 (w : World) (p i j : Nat) (u v : Value) : w.grownBy ((w.setCell ⟨p, i, none⟩ u).setCell ⟨p, j, none⟩ v) (some p) :=
  ⟨rfl, rfl, rfl, by simp, fun k hk hne => by
    have hkp : k ≠ p := fun e => hne (by rw [e])
    rw [Below.heap_setCell _ _ _ _ hkp, Below.heap_setCell _ _ _ _ hkp]⟩
/-- One is struck. -/
theorem SW.del {S : Hs} {l : List Int} {w1 w2 w3 : World} {N : Nat → Prop} {p mb it bud n0 cnt3 : Nat} {left : Lit → Bool} {D : DV} {F : Int → Option Value} {tk x : Int} {o : Ob} (ok : Ok S bud) (hx : rc S l x = false) (ho : o ∈ keepF S l left) (hox : o.nm = x) (hi : i64 x)
    (h1 : w3.ranges Try.prog 3 RS mb it n0 (D.del (.int .i64 x)) (fun z => (left z && !z.sameKey (.int .i64 x)) && !z.sameKey (.int .i64 x)) cnt3) (hg : w2.grownBy w3 (some mb)) (hF : MapIs D F) (hs : Maps.size D = (keepF S l left).length) (hT : Maps.Tidy D) (hO : HO w2 N p mb (keepF S l left) F)
    (hp : w2.heap[p]? = some (.cells #[.int .i64 (bud : Int), .int .i64 (used (keepF S l left) : Int), .int .i64 tk, .map (some mb)] 71 (0, 0))) (htk : Tk (keepF S l left) tk) (tr : Tr N w1 w2) (np : N p) (nm : N mb) (hmp : mb ≠ p) (hip : it ≠ p) (lt : ∀ k, N k → k < w2.heap.size)
    {W : World} (hgW : w3.grownBy W (some p)) (hpW : W.heap[p]? = some (.cells #[.int .i64 (bud : Int), .int .i64 ((used (keepF S l left) : Int) - ((o.cs.length : Int) + 1)), .int .i64 (min tk (x - 1)), .map (some mb)] 71 (0, 0))) :
    SW S l w1 W N p mb it bud n0 (fun z => left z && !z.sameKey (.int .i64 x)) cnt3 := by
  rw [Maps.strike_twice] at h1
  have hup : (keepF S l left).Pairwise (fun a b => a.nm < b.nm) := ok.sub _
  have hu := used_drop hup ho
  have hl := len_drop hup ho
  have hpos := (ok.pos o (keep_mem ho)).1
  rw [hox] at hu hl hpos
  have hhas : Maps.has D (.int .i64 x) = true := by
    rw [hF.hs, hO.dom]; exact hasN_iff.2 ⟨o, ho, hox⟩
  have hsd := size_del hT (k := .int .i64 x)
  rw [hhas, if_pos rfl] at hsd
  refine ⟨⟨D.del (.int .i64 x), _, min tk (x - 1), h1.kept hgW (fun e => hmp (by simpa using e)) (fun e => hip (by simpa using e)), hF.del x, ?_, ?_, ?_, ?_⟩, ?_⟩
  · rw [keep_del hx]; omega
  · rw [keep_del hx]
    refine (hO.drop x).turn (fun g hgN hgp hgm => ?_)
    exact (hgW.block g (Nat.lt_of_lt_of_le (lt g hgN) hg.size) (fun e => hgp (by simpa using e))).trans (hg.block g (lt g hgN) (fun e => hgm (by simpa using e)))
  · rw [hpW, keep_del hx]
    have : ((used (keepF S l left) : Int) - ((o.cs.length : Int) + 1)) = (used ((keepF S l left).filter fun o => !(o.nm == x)) : Int) := by omega
    rw [this]
  · rw [keep_del hx]; exact htk.drop hpos
  · exact (tr.grown hg (fun k e => .inl (by cases e; exact nm))).grown hgW (fun k e => .inl (by cases e; exact np))
set_option maxHeartbeats 2000000 in
set_option maxRecDepth 100000 in
theorem c_sweep {N : Nat → Prop} {p bud : Nat} {S : Hs} (l : List Int) (v : Value) (B : Sel) (w : World) (h : HP w N p bud S) (ok : Ok S bud) (hl : IL w B l v) (hkn : knownR S l = true) :
    Calls Try.prog 40 #[.pointer (some ⟨p, 0, none⟩), v] w fun e w' => e = .returned (.int .i64 ((S.length : Int) - (col S l).length)) ∧ HP w' N p bud (col S l) ∧ Tr N w w' := by
  have HH := Lib.hid h
  have HK := Lib.hid ok
  have HL := Lib.hid hl
  have HN := Lib.hid hkn
  have hpz : p < w.heap.size := h.lt p h.np
  clear h ok hl hkn
  go_enter Try.func40, Try.ntmps40
  go_upto_region 3 with (go_at_call 49; (with_reducible refine (c_reached l v B w HH.out HK.out HL.out HN.out).mono ?_); rintro e w1 ⟨mt, D, g, rfl, h1, h2, h3, h4, h5, h6, h7⟩; have H1 := Lib.hid h1; have H2 := Lib.hid h2; have H3 := Lib.hid h3; have H4 := Lib.hid h4; have H5 := Lib.hid h5; have HG7 := Lib.hid h7; have hz7 := h7.sz; clear h1 h2 h3 h4 h5 h7)
  obtain ⟨np, lt0, tk, mb, DS, F, q1, q2, q3, q4, q5, q6, q7, q8⟩ := HH.out.keep HG7.out
  have lt1 : ∀ k, N k → k < w.heap.size := HH.out.lt
  obtain ⟨c0, c1, c2, c3⟩ := row4 q1
  have hpz1 : p < w1.heap.size := by omega
  have hmtN : ¬ N mt := fun e => by have := lt1 mt e; omega
  have hmtl : mt < w1.heap.size := H1.out.obj |>.elim fun es h => h.elim fun c h => row_lt h
  have Q5 : Hid (w1.ownsMap Try.prog 3 RS mb (Maps.size DS) DS) := Lib.hid q5
  have QA := Lib.hid (And.intro q6 (And.intro q7 (And.intro q8 (And.intro q4 q1))))
  have QN := Lib.hid (And.intro np (And.intro q2 (And.intro q3 lt1)))
  have hmbz : mb < w.heap.size := lt1 mb q2
  clear q1 q2 q3 q4 q5 q6 q7 q8 np lt0 lt1
  go_wp2_with (first
    | (at_range; refine wpList_range_own _ rfl _ 69 rfl 3 72 KI Try.underlying69 RS mb _ DS rfl Q5.out ?_; intro w2 hrg hg2 hs2; have HRG := Lib.hid hrg; have HG2 := Lib.hid hg2; clear hrg hg2)
    | go_in)
  have hz2 : w1.heap.size < w2.heap.size := by omega
  have HST : Hid (keepF S l (Maps.has DS) = S) := Lib.hid (keep_start (fun o ho => by obtain ⟨q6, q7, q8, _⟩ := QA.out; rw [q6.hs, q8.dom]; exact hasN_mem ho))
  have hSW : SW S l w1 w2 N p mb w1.heap.size bud (Maps.size DS) (Maps.has DS) (Maps.size DS) := by
    obtain ⟨q6, q7, q8, q4, q1⟩ := QA.out
    have hst := HST.out
    have hkp : Tr N w1 w2 := (Tr.refl N w1).grown HG2.out (fun k e => by cases e)
    refine ⟨⟨DS, F, tk, HRG.out, q6, by rw [hst]; exact q7, ?_, ?_, by rw [hst]; exact q4⟩, hkp⟩
    · rw [hst]
      exact q8.turn (fun g hg _ _ => HG2.out.block g (by have := QN.out.2.2.2 g hg; omega) (by simp))
    · rw [hst]
      exact (HG2.out.block p (by omega) (by simp)).trans q1
  have HSW := Lib.hid hSW
  clear hSW HRG QA Q5 c0 c1 c2 c3
  go_frame
  go_loopw [6] (fun gn wr => ∃ (left : Lit → Bool) (cnt : Nat), gn = .int .i64 ((S.length : Int) - (keepF S l left).length) ∧ SW S l w1 wr N p mb w1.heap.size bud (Maps.size DS) left cnt) (fun _ wr => wr.rangeLeft mb w1.heap.size)
  case atStart =>
    refine ⟨_, _, ?_, HSW.out⟩
    rw [HST.out]; simp
  case round =>
    obtain ⟨left, cnt, rfl, hsw⟩ := hrel
    have HS := Lib.hid hsw
    obtain ⟨D, F, tk, r1, r2, r3, r4, r5, r6⟩ := hsw.rg
    have HA := Lib.hid (And.intro r2 (And.intro r3 (And.intro r4 (And.intro r6 r5))))
    have hTR := Lib.hid hsw.tr
    have hzr : w1.heap.size ≤ wr.heap.size := hsw.tr.sz
    have hRG := Lib.hid r1
    clear hsw r2 r3 r4 r5 r6
    go_wp2_with (first
      | (at_next; refine wpList_next_ranges _ rfl _ rfl 3 KI RS encZ id (fun key kl hk => by obtain ⟨x, hx, _⟩ := Maps.keyOf_i64 Try.underlying3 hk; exact ⟨x, hx⟩) (fun v _ _ => ⟨v, rfl⟩) mb w1.heap.size _ D left cnt rfl hRG.out ?_ ?_)
      | go_in)
    · intro hc0 hl0
      go_wp2
      go_ret
      have hke : keepF S l left = col S l := keep_end hl0
      obtain ⟨r2, r3, r4, r6, r5⟩ := HA.out
      rw [hke] at r3 r4 r5 r6
      have htr : Tr N w wr := (HG7.out.tr N).trans hTR.out (fun k _ e => e)
      refine ⟨by rw [hke]; rfl, ⟨QN.out.1, fun k hk => Nat.lt_of_lt_of_le (QN.out.2.2.2 k hk) htr.sz, tk, mb, D, F, r5, QN.out.2.1, QN.out.2.2.1, r6, OM.of hRG.out.owns, r2, r3, r4⟩, htr⟩
    · intro x c kl yd yp w3 cnt2 hkey hlk hv hat hrg2 hlt hg3 hs3 hen
      obtain ⟨x', ex, rfl, hwx⟩ := Maps.keyOf_i64 Try.underlying3 hkey
      obtain rfl : x = x' := encZ_inj ex
      have hi : i64 x := bounds_i64 hwx
      obtain ⟨⟨a, n, cc, rfl⟩, hy⟩ := RS_inv hv
      have hyd : yd = .held (.slice a n cc) := congrArg Prod.fst hy
      have hhas : Maps.has D (.int .i64 x) = true := has_true_of_atKey hat
      have hFx : F x = some (.slice a n cc) := by
        have h1 := HA.out.1.hs x
        rw [hhas] at h1
        obtain ⟨u, hu⟩ := Option.isSome_iff_exists.1 h1.symm
        have h2 := HA.out.1.at' x u hu (.lit (.int .i64 0))
        rw [hat, hyd] at h2
        cases h2
        exact hu
      have hmem : hasN (keepF S l left) x = true := by rw [← HA.out.2.2.1.dom, hFx]; rfl
      obtain ⟨o, ho, hox⟩ := hasN_iff.1 hmem
      have hno : n = o.cs.length := by
        obtain ⟨v', h1, h2⟩ := HA.out.2.2.1.ob o ho
        rw [hox, hFx] at h1
        cases h1
        obtain ⟨a', c', he⟩ := h2.slice
        cases he; rfl
      have hol : o.cs.length ≤ 65536 := by have := used_mem (keep_mem ho); have := HK.out.fit; have := HK.out.bud; omega
      have hHO := Lib.hid ho
      have hRG3 := Lib.hid hrg2
      have hG3 := Lib.hid hg3
      have hz3 : wr.heap.size ≤ w3.heap.size := by omega
      have hF := Lib.hid hFx
      have hHH := Lib.hid hhas
      have hHK := Lib.hid hkey
      have hM : OM RI w3 mt _ := H1.out.turn ((hG3.out.block mt (by omega) (fun e => by cases e; omega)).trans (hTR.out.fr mt hmtl hmtN))
      have HM := Lib.hid hM
      have htr3 : Tr N w1 w3 := hTR.out.grown hG3.out (fun k e => .inr (by cases e; exact Nat.le_refl _))
      have HT3 := Lib.hid htr3
      have hlt2 := Lib.hid hlt
      have hlk2 := Lib.hid hlk
      clear hkey hlk hv hat hrg2 hg3 hs3 hhas hFx hmem ho hM htr3 hy hyd ex hlt hwx
      subst hno
      by_cases hgx : 0 < g x
      · have hne : ((g x : Int) > 0) := by omega
        go_wp2_with (first | ((with_reducible show wpList _ _ _ (⟨some 24, _, _, _, _, _⟩ :: _) _ _); refine wpList_tm (d := 24) _ _ rfl mt _ g (by rfl) HM.out H2.out x (by rfl) hi ?_))
        go_roundw
        case rel =>
          have hrc : rc S l x = true := rc_iff.2 ((H3.out x).1 hgx)
          obtain ⟨r2, r3, r4, r6, r5⟩ := HA.out
          refine ⟨_, cnt2, ?_, ⟨D, F, tk, hRG3.out, r2, by rw [keep_same hrc]; exact r3, ?_, ?_, by rw [keep_same hrc]; exact r6⟩, HT3.out⟩
          · rw [keep_same hrc]
          · rw [keep_same hrc]
            exact r4.turn (fun g' hg' _ _ => hG3.out.block g' (by have := QN.out.2.2.2 g' hg'; omega) (fun e => by cases e; have := QN.out.2.2.2 _ hg'; omega))
          · rw [keep_same hrc]
            exact (hG3.out.block p (by omega) (fun e => by cases e; omega)).trans r5
        case measure => rw [hRG3.out.left_eq, hRG.out.left_eq]; exact hlt2.out
      · have hg0 : g x = 0 := by omega
        have HG0 := Lib.hid hg0
        have hrc : rc S l x = false := by
          cases hh : rc S l x with
          | false => rfl
          | true => exact absurd ((H3.out x).2 (rc_iff.1 hh)) hgx
        have HRC := Lib.hid hrc
        have hxp : 1 ≤ x ∧ x ≤ 65536 := by rw [← hox]; exact HK.out.pos o (keep_mem hHO.out)
        obtain ⟨hx1, hx2⟩ := hxp
        have hku : o.cs.length + 1 ≤ used (keepF S l left) := used_mem hHO.out
        have hkb : used (keepF S l left) ≤ 65536 := by have : used (keepF S l left) ≤ used S := used_filter _ _; have := HK.out.fit; have := HK.out.bud; omega
        have htk : 0 ≤ tk ∧ tk ≤ 65536 := ⟨HA.out.2.2.2.1.1, HA.out.2.2.2.1.2.1⟩
        obtain ⟨ht1, ht2⟩ := htk
        have hp3 : w3.heap[p]? = _ := (hG3.out.block p (by omega) (fun e => by cases e; omega)).trans HA.out.2.2.2.2
        have hmp := QN.out.2.2.1
        have hmz3 : mb < w3.heap.size := by omega
        have HP3 := Lib.hid hp3
        obtain ⟨c0, c1, c2, c3⟩ := row4 hp3
        have hpz3 : p < w3.heap.size := row_lt hp3
        clear hp3 hrc
        go_wp2_with (first
          | ((with_reducible show wpList _ _ _ (⟨some 24, _, _, _, _, _⟩ :: _) _ _); refine wpList_tm (d := 24) _ _ rfl mt _ g (by rfl) HM.out H2.out x (by rfl) hi ?_; rw [HG0.out])
          | (at_delete; refine wpList_delete_ranges _ rfl _ _ 69 3 rfl 72 KI Try.underlying69 RS mb w1.heap.size _ D _ cnt2 rfl hRG3.out _ _ rfl hHK.out ?_; intro w4 cnt4 hrg4 hle4 hturn4; have hRG4 := Lib.hid hrg4; have hG4 := Lib.hid hturn4.grown; have HP4 := Lib.hid (grown_row HP3.out hG4.out (fun k hk => by cases hk; exact hmp)); obtain ⟨c0, c1, c2, c3⟩ := row4 HP4.out; have hpz4 := row_lt HP4.out; have f1 := frozen_of_row _ _ 1 _ _ HP4.out; have f2 := frozen_of_row _ _ 2 _ _ HP4.out; clear hrg4 hturn4))
        go_region_law (refine step_go (by rfl) (step_call (f := 43) (by rfl) Try.func43 (by kernel_rfl) (by kernel_rfl) (by simp [Act.eval, Act.put]) ((c_room (o.cs.length : Int) _ (by omega)).mono ?_)); rintro e w5 ⟨rfl, rfl⟩; refine ⟨_, rfl, ?_⟩)
        all_goals
          have hp5 := heap_setCell_same w4 p 1 _ _ (.int .i64 (IntKind.i64.wrap ((used (keepF S l left) : Int) - ((o.cs.length : Int) + 1)))) HP4.out
          have hwr : IntKind.i64.wrap ((used (keepF S l left) : Int) - ((o.cs.length : Int) + 1)) = (used (keepF S l left) : Int) - ((o.cs.length : Int) + 1) := by rw [IntKind.wrap_i64]; omega
          go_wp2_with fail
          obtain ⟨W, hW⟩ : ∃ W, W = ((w4.setCell ⟨p, 1, none⟩ (.int .i64 ((used (keepF S l left) : Int) - ((o.cs.length : Int) + 1)))).setCell ⟨p, 2, none⟩ (.int .i64 (min tk (x - 1)))).drew := ⟨_, rfl⟩
          rw [← hW]
          rw [hwr] at hp5
          have hpW : W.heap[p]? = some (.cells #[.int .i64 (bud : Int), .int .i64 ((used (keepF S l left) : Int) - ((o.cs.length : Int) + 1)), .int .i64 (min tk (x - 1)), .map (some mb)] 71 (0, 0)) := by
            rw [hW]
            exact heap_setCell_same _ p 2 _ _ (.int .i64 (min tk (x - 1))) hp5
          have hgW : w4.grownBy W (some p) := by rw [hW]; have h2 := grownBy_set2 w4 p 1 2 (.int .i64 ((used (keepF S l left) : Int) - ((o.cs.length : Int) + 1))) (.int .i64 (min tk (x - 1))); exact ⟨h2.os, h2.tape, h2.output, h2.size, h2.block⟩
          have hSD := SW.del (w1 := w1) (W := W) HK.out HRC.out hHO.out hox hi hRG4.out hG4.out HA.out.1 HA.out.2.1 (OM.tidy (OM.of hRG3.out.owns)) (HA.out.2.2.1.turn (fun g' hg' _ _ => hG3.out.block g' (by have := QN.out.2.2.2 g' hg'; omega) (fun e => by cases e; have := QN.out.2.2.2 _ hg'; omega))) HP3.out HA.out.2.2.2.1 HT3.out QN.out.1 QN.out.2.1 hmp (by omega) (fun k hk => by have := QN.out.2.2.2 k hk; omega) hgW hpW
          obtain ⟨_, _, _, hrgW, _⟩ := id hSD.rg
          refine ⟨⟨_, cnt4, ?_, hSD⟩, ?_⟩
          · rw [keep_del HRC.out]
            have hup : (keepF S l left).Pairwise (fun a b => a.nm < b.nm) := HK.out.sub _
            have hl := len_drop hup hHO.out
            rw [hox] at hl
            have hle : (keepF S l left).length ≤ S.length := List.length_filter_le _ _
            have := HK.out.len
            refine congrArg (Value.int .i64) ?_
            generalize hA : (List.filter (fun o => !(o.nm == x)) (keepF S l left)).length = A at hl ⊢
            generalize (keepF S l left).length = K at hl hle ⊢
            unfold wrap64
            omega
          · rw [hrgW.left_eq, hRG.out.left_eq]
            have := hlt2.out
            omega
end Go.Proofs.Ytkaeigklhdpifaa
