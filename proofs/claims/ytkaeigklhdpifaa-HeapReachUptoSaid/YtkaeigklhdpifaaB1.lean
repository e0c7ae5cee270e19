/- A call on both heaps: they answer alike, and hold the same again. Condition: both heaps lie in memory, apart. -/
import Derived.Test.YtkaeigklhdpifaaR7
import Derived.Test.YtkaeigklhdpifaaN1
import Derived.Test.YtkaeigklhdpifaaR3
import Derived.Test.YtkaeigklhdpifaaBa
import Derived.Deep.DeepCutAuto
namespace Go.Proofs.Ytkaeigklhdpifaa
open Go.RowKit Go.Maps Go.Sort
set_option linter.unusedVariables false
set_option linter.unusedSimpArgs false
noncomputable def actP (bud : Nat) (S : Hs) (a : Ac) : Hs :=
  if a.k = 2 then (putP S a.o a.i a.n).1
  else if a.k = 4 then (colP S a.roots).1
  else if a.k = 1 ∨ a.k = 3 ∨ a.k = 5 ∨ a.k = 6 then S
  else (allocP bud S a.refs a.roots).1
theorem Ok.actP {S : Hs} {bud : Nat} (h : Ok S bud) (a : Ac) (ha : AcOk a) : Ok (actP bud S a) bud := by
  unfold Go.Proofs.Ytkaeigklhdpifaa.actP
  split
  · exact h.putP _ _ ha.n
  · split
    · exact h.colP _
    · split
      · exact h
      · exact h.allocP _ _
/-- Both heaps, apart. -/
structure Bo (w : World) (N : Nat → Prop) (p : Nat) (M : Nat → Prop) (q : Nat) (bud : Nat) (S : Hs) : Prop where
  hp : HP w N p bud S
  rp : RP w M q bud S
  ap : ∀ k, N k → ¬ M k
  ok : Ok S bud
theorem Bo.keep {w w' : World} {N M : Nat → Prop} {p q bud : Nat} {S : Hs} (h : Bo w N p M q bud S) (k : Kp w w') : Bo w' N p M q bud S := ⟨h.hp.keep k, h.rp.keep k, h.ap, h.ok⟩
/-- What a call on both leaves. -/
def AfterB (w w' : World) (N M : Nat → Prop) (p q bud : Nat) (S : Hs) : Prop := ∃ N' M', Bo w' N' p M' q bud S ∧ Tr (fun k => N k ∨ M k) w w' ∧ (∀ k, N' k → N k ∨ w.heap.size ≤ k) ∧ ∀ k, M' k → M k ∨ w.heap.size ≤ k
theorem AfterB.same {w w' : World} {N M : Nat → Prop} {p q bud : Nat} {S : Hs} (h : Bo w N p M q bud S) (k : Kp w w') : AfterB w w' N M p q bud S := ⟨N, M, h.keep k, k.tr _, fun _ h => .inl h, fun _ h => .inl h⟩
/-- First the one, then the other. -/
theorem AfterB.both {w wa w1 wb w2 : World} {N M N' M' : Nat → Prop} {p q bud : Nat} {S S' : Hs} (h : Bo w N p M q bud S) (ka : Kp w wa) (h1 : HP w1 N' p bud S') (t1 : Tr N wa w1) (n1 : ∀ k, N' k → N k ∨ wa.heap.size ≤ k) (kb : Kp w1 wb) (h2 : RP w2 M' q bud S') (t2 : Tr M wb w2) (m2 : ∀ k, M' k → M k ∨ wb.heap.size ≤ k) (ok : Ok S' bud) : AfterB w w2 N M p q bud S' := by
  have za := ka.sz
  have z1 := t1.sz
  have zb := kb.sz
  have hNlt := fun k hk => h1.lt k hk
  have hN2 : ∀ k, N' k → ¬ M k := fun k hk hm => by
    rcases n1 k hk with h' | h'
    · exact h.ap k h' hm
    · have := h.rp.lt k hm; omega
  refine ⟨N', M', ⟨(h1.keep kb).tr t2 hN2, h2, fun k hk hm => ?_, ok⟩, ?_, fun k hk => ?_, fun k hk => ?_⟩
  · rcases m2 k hm with h' | h'
    · exact hN2 k hk h'
    · have := hNlt k hk; omega
  · have s1 : Tr N w w1 := (ka.tr N).trans t1 (fun _ _ e => e)
    have s2 : Tr M w1 w2 := (kb.tr M).trans t2 (fun _ _ e => e)
    exact (s1.of (fun k _ e => .inl e)).trans (s2.of (fun k _ e => .inr e)) (fun k _ e => e)
  · rcases n1 k hk with h' | h'
    · exact .inl h'
    · exact .inr (by omega)
  · rcases m2 k hk with h' | h'
    · exact .inl h'
    · exact .inr (by omega)
theorem infoA6 : (Try.prog.info? 35).map (·.size) = some 6 := by kernel_rfl
theorem row6 {w : World} {b : Nat} {x0 x1 x2 x3 x4 x5 : Value} {t : TypeId} (h : w.heap[b]? = some (.cells #[x0, x1, x2, x3, x4, x5] t (0, 0))) : w.cell? ⟨b, 0, none⟩ = some x0 ∧ w.cell? ⟨b, 1, none⟩ = some x1 ∧ w.cell? ⟨b, 2, none⟩ = some x2 ∧ w.cell? ⟨b, 3, none⟩ = some x3 ∧ w.cell? ⟨b, 4, none⟩ = some x4 ∧ w.cell? ⟨b, 5, none⟩ = some x5 :=
  ⟨by rw [cell_of_row _ _ _ _ _ _ h]; rfl, by rw [cell_of_row _ _ _ _ _ _ h]; rfl, by rw [cell_of_row _ _ _ _ _ _ h]; rfl, by rw [cell_of_row _ _ _ _ _ _ h]; rfl, by rw [cell_of_row _ _ _ _ _ _ h]; rfl, by rw [cell_of_row _ _ _ _ _ _ h]; rfl⟩
theorem step_append_copy {α : Type} {L : Ly α} (hf : Flat L) {w : World} {ops : Array Oper} {o : Oper} {a : Act} {K : Act → World → Prop} {Q : Exit → Act → World → Prop} {E : Prop} (hgd : o.guard = none) (s x : Operand) (t : TypeId)
    (ho : o.op = .call { callee := .builtin .append, args := #[s, x], argTypes := #[t, t] })
    (e : TypeId) (i : TypeInfo) (z : Value) (size bytes : Nat) (ht : Try.prog.underlying t = some (.slice e)) (hi : Try.prog.info? e = some i) (hz : i.zero = some z)
    (hsize : i.size = size) (hby : i.bytes = bytes) (hzs : z.cells.size = size) (hsz : 0 < size) (hb0 : 0 < bytes)
    (g : Nat) (hs : a.eval s = .slice (some ⟨g, 0, none⟩) 0 0) (w0 : World) (S : Sel) (l : List α) (v : Value) (hx : a.eval x = v) (hl : RL e size bytes L w0 S l v) (hk : Kp w0 w) (hg0 : w0.heap.size ≤ g) (hg : w.heap[g]? = some (.cells #[] e (0, 0)))
    (h : ∀ a' c' w', RL e size bytes L w' (From w0.heap.size) l (.slice a' l.length c') → w.grownBy w' (some g) → Kp w0 w' → K (a.put o.dst (.slice a' l.length c')) w') :
    if Region.wanted o (yielded ops a.tmps) = true then Oper.wp Try.prog o a w K Q else E := by
  obtain ⟨ad, c, C, rfl, hlc, hby2, hC, htab, hxx⟩ := hl
  have hgl := row_lt hg
  have hcap : l.length * 1 ≤ l.length * bytes := Nat.mul_le_mul_left _ hb0
  refine step_append_tab hgd s x t ho w0.heap.size e i z size bytes ht hi hz hsize hby hzs hsz (.slice (some ⟨g, 0, none⟩) 0 0) 0 [] hs (empty_own hg hg0) w0 S ad l.length c C hx htab hk (fun i => (hC i).1) (fun i => (hC i).2) (by unfold maxLen; omega) (by simp; omega) (by omega) (Nat.le_refl _) (fun v' w' ho hgr hkk => ?_)
  rw [Nat.zero_add, List.nil_append] at ho
  have hrl := rl_of_owns hf ho hby2 hC hxx
  have hrl2 := hrl
  obtain ⟨a', c', _, rfl, _⟩ := hrl2
  exact h a' c' w' hrl hgr hkk
theorem hr1 {w w1 : World} (k : Kp w w1) {B : Sel} {l : List Bool} {v : Value} (h : BoL w B l v) : BoL w1 B l v := RL.keep goodBo h k
theorem ap_sym {N M : Nat → Prop} (h : ∀ k, N k → ¬ M k) : ∀ k, M k → ¬ N k := fun k hm hn => h k hn hm
theorem selN {N M B : Nat → Prop} {z : Nat} (h : ∀ b, B b → ¬ N b ∧ ¬ M b) : ∀ b, b < z → B b → ¬ N b := fun b _ hb => (h b hb).1
theorem selM {N M B : Nat → Prop} (h : ∀ b, B b → ¬ N b ∧ ¬ M b) : ∀ b, B b → ¬ M b := fun b hb => (h b hb).2
theorem selF {w1 : World} {N : Nat → Prop} {p bud : Nat} {S : Hs} (h : HP w1 N p bud S) : ∀ b, (From w1.heap.size).S b → ¬ N b := fun b (hb : w1.heap.size ≤ b) hn => by have := h.lt b hn; omega
theorem same_refl (l : List Int) : sameZ l l = true := by unfold sameZ; simp
set_option maxHeartbeats 4000000 in
set_option maxRecDepth 100000 in
theorem c_act {N M : Nat → Prop} {p q bud : Nat} {S : Hs} (a : Ac) (vr vl : Value) (B : Sel) (w : World) (h : Bo w N p M q bud S) (ha : AcOk a) (hr : BoL w B a.refs vr) (hl : IL w B a.roots vl) (hB : ∀ b, B.S b → ¬ N b ∧ ¬ M b) :
    Calls Try.prog 14 #[.pointer (some ⟨p, 0, none⟩), .pointer (some ⟨q, 0, none⟩), .agg #[.int .i64 a.k, .int .i64 a.o, .int .i64 a.i, .int .u64 a.n, vr, vl]] w fun e w' => e = .returned (.bool true) ∧ AfterB w w' N M p q bud (actP bud S a) := by
  obtain ⟨k, o, i, n, refs, roots⟩ := a
  obtain ⟨h1, h2, h3, h4⟩ := ha
  dsimp only at h1 h2 h3 h4 hr hl ⊢
  obtain ⟨ar, cr, _, rfl, _⟩ := id hr
  obtain ⟨al, cl, rfl⟩ := hl.sl
  have HH := Lib.hid h
  have HR := Lib.hid hr
  have HL := Lib.hid hl
  have HB := Lib.hid hB
  clear h hr hl hB
  go_enter Try.func14, Try.ntmps14
  go_upto_region 1 with fail
  have hb0 : (w.alloc (.cells #[.int .i64 k, .int .i64 o, .int .i64 i, .int .u64 n, .slice ar refs.length cr, .slice al roots.length cl] 35)).heap[w.heap.size]? = some (.cells #[.int .i64 k, .int .i64 o, .int .i64 i, .int .u64 n, .slice ar refs.length cr, .slice al roots.length cl] 35 (0, 0)) := heap_at rfl
  have hk1 := (Kp.refl w).alloc (.cells #[.int .i64 k, .int .i64 o, .int .i64 i, .int .u64 n, .slice ar refs.length cr, .slice al roots.length cl] 35)
  obtain ⟨w1, hw1⟩ : ∃ w1, w1 = w.alloc (.cells #[.int .i64 k, .int .i64 o, .int .i64 i, .int .u64 n, .slice ar refs.length cr, .slice al roots.length cl] 35) := ⟨_, rfl⟩
  rw [← hw1] at hb0 hk1 ⊢
  clear hw1
  have HB0 := Lib.hid hb0
  have HK1 := Lib.hid hk1
  have H1 := Lib.hid (HH.out.keep hk1)
  have HR1 := Lib.hid (hr1 hk1 HR.out)
  have HL1 := Lib.hid (HL.out.keep goodI hk1)
  obtain ⟨c0, c1, c2, c3, c4, c5⟩ := row6 hb0
  have bz := row_lt hb0
  have hnN : ¬ N w.heap.size := fun hn => by have := HH.out.hp.lt _ hn; omega
  have hnM : ¬ M w.heap.size := fun hn => by have := HH.out.rp.lt _ hn; omega
  have HNN := Lib.hid hnN
  have HNM := Lib.hid hnM
  have HH2 := Lib.hid h2
  have HH3 := Lib.hid h3
  have HH4 := Lib.hid h4
  clear hb0 hk1 hnN hnM
  by_cases k1 : k = 1
  · subst k1
    have HS := Lib.hid (show actP bud S ⟨1, o, i, n, refs, roots⟩ = S by unfold actP; simp)
    go_wp2_with (first
      | (go_at_call 22; (with_reducible refine (c_Get o i w1 H1.out.hp H1.out.ok HH2.out HH3.out).mono ?_); rintro e w2 ⟨rfl, hk⟩; have K2 := Lib.hid hk; obtain ⟨d0, d1, d2, d3, d4, d5⟩ := row6 (row_keep hk HB0.out); have dz := row_lt (row_keep hk HB0.out); clear hk)
      | (go_at_call 32; (with_reducible refine (c_rCell o i w2 (H1.out.rp.keep K2.out) H1.out.ok HH2.out HH3.out).mono ?_); rintro e w3 ⟨rfl, hk⟩; have K3 := Lib.hid hk; clear hk))
    go_ret
    rw [HS.out]
    exact ⟨by simp, AfterB.same HH.out ((HK1.out.trans K2.out).trans K3.out)⟩
  by_cases k2 : k = 2
  · subst k2
    have HS := Lib.hid (show actP bud S ⟨2, o, i, n, refs, roots⟩ = (putP S o i n).1 by unfold actP; rfl)
    clear k1
    go_upto_region 7 with fail
    go_region_held3 (fun w' : World => w'.cell? ⟨w.heap.size, 1, none⟩ = some (.int .i64 o) ∧ w'.cell? ⟨w.heap.size, 2, none⟩ = some (.int .i64 i) ∧ w'.cell? ⟨w.heap.size, 3, none⟩ = some (.int .u64 n)) (first | exact ⟨c1, c2, c3⟩ | exact ⟨d1, d2, d3⟩) (first
      | (go_at_call 28; (with_reducible refine (c_Set o i n w1.drew (H1.out.hp.keep (Kp.refl w1).drew) H1.out.ok HH2.out HH3.out HH4.out).mono ?_); rintro e w2 ⟨rfl, g1, g2⟩; have G1 := Lib.hid g1; have G2 := Lib.hid g2; obtain ⟨d0, d1, d2, d3, d4, d5⟩ := row6 (g2.row (row_keep ((Kp.refl w1).drew) HB0.out) HNN.out); have dz := row_lt (g2.row (row_keep ((Kp.refl w1).drew) HB0.out) HNN.out); clear g1 g2)
      | (go_at_call 33; (with_reducible refine (c_rPut o i n w2 ((H1.out.rp.keep (Kp.refl w1).drew).tr G2.out (ap_sym H1.out.ap)) H1.out.ok HH2.out HH3.out HH4.out).mono ?_); rintro e w3 ⟨rfl, g1, g2⟩; have G3 := Lib.hid g1; have G4 := Lib.hid g2; obtain ⟨d0, d1, d2, d3, d4, d5⟩ := row6 (g2.row (G2.out.row (row_keep ((Kp.refl w1).drew) HB0.out) HNN.out) HNM.out); have dz := row_lt (g2.row (G2.out.row (row_keep ((Kp.refl w1).drew) HB0.out) HNN.out) HNM.out); clear g1 g2))
    go_wp2_with fail
    go_ret
    rw [HS.out]
    exact ⟨by simp, AfterB.both HH.out (HK1.out.drew) G1.out G2.out (fun k hk => .inl hk) (Kp.refl _) G3.out G4.out (fun k hk => .inl hk) (HH.out.ok.putP _ _ HH4.out)⟩
  have b2 : (k == 2) = false := by simpa using k2
  by_cases k3 : k = 3
  · subst k3
    have HS := Lib.hid (show actP bud S ⟨3, o, i, n, refs, roots⟩ = S by unfold actP; simp)
    clear k1 k2
    rcases atI_cases H1.out.ok o with ⟨hno, hat⟩ | ⟨hhas, j, ob, hj, hnm, hat, hget⟩
    · have hl0 : lenP S o = 0 := by unfold lenP; rw [getN_none.2 hno]
      have HN := Lib.hid hno
      have HA := Lib.hid hat
      have HL0 := Lib.hid hl0
      clear hno hat hl0
      go_wp2_with (first
        | (go_at_call 21; (with_reducible refine (c_Len o w1 H1.out.hp H1.out.ok HH2.out).mono ?_); rintro e w' ⟨rfl, hw'⟩; rw [hw', HL0.out, HN.out]; clear hw' w')
        | (go_at_call 20; (with_reducible refine (c_At o w1 H1.out.rp H1.out.ok HH2.out).mono ?_); rintro e w' ⟨rfl, hw'⟩; rw [hw', HA.out]; clear hw' w'))
      go_ret
      rw [HS.out]
      exact ⟨by rfl, AfterB.same HH.out HK1.out⟩
    · have hl0 : lenP S o = ob.cs.length := by unfold lenP; rw [hget]
      obtain ⟨a, c, cv, rv, h1, hlc, _, _, ht, hro⟩ := H1.out.rp.list
      obtain ⟨q0, q1⟩ := row2 h1
      have qz := row_lt h1
      obtain ⟨bl, z, rfl, e0, e1, e2, ez⟩ := ht.obj hj
      obtain ⟨an, cn, hv1⟩ := (hro.ob ob (List.mem_of_getElem? hj)).1.slice
      rw [numsV_len] at hv1
      rw [hv1] at e1
      have hjl : j < S.length := (List.getElem?_eq_some_iff.1 hj).1
      have hSl := H1.out.ok.len
      have HN := Lib.hid hhas
      have HA := Lib.hid hat
      have HL0 := Lib.hid hl0
      clear hhas hat hl0 hget hnm hro ht h1 hv1 hj
      go_wp2_with (first
        | (go_at_call 21; (with_reducible refine (c_Len o w1 H1.out.hp H1.out.ok HH2.out).mono ?_); rintro e w' ⟨rfl, hw'⟩; rw [hw', HL0.out, HN.out]; clear hw' w')
        | (go_at_call 20; (with_reducible refine (c_At o w1 H1.out.rp H1.out.ok HH2.out).mono ?_); rintro e w' ⟨rfl, hw'⟩; rw [hw', HA.out]; clear hw' w'))
      go_ret
      rw [HS.out]
      exact ⟨by simp [has15], AfterB.same HH.out HK1.out⟩
  have b3 : (k == 3) = false := by simpa using k3
  by_cases k4 : k = 4
  · subst k4
    have HS := Lib.hid (show actP bud S ⟨4, o, i, n, refs, roots⟩ = (colP S roots).1 by unfold actP; rfl)
    clear k1 k2 k3
    go_wp2_with (first
      | (go_at_call 19; refine (c_ints roots _ B w1 HL1.out).mono ?_; rintro e w2 ⟨u2, rfl, g1, g2⟩; obtain ⟨au, cu, rfl⟩ := g1.sl; have I1 := Lib.hid g1; have K2 := Lib.hid g2; clear g1 g2)
      | (go_at_call 23; (with_reducible refine (c_Collect roots _ _ w2 (H1.out.hp.keep K2.out) H1.out.ok I1.out).mono ?_); rintro e w3 ⟨rfl, g1, g2⟩; have G1 := Lib.hid g1; have G2 := Lib.hid g2; obtain ⟨d0, d1, d2, d3, d4, d5⟩ := row6 (g2.row (row_keep K2.out HB0.out) HNN.out); have dz := row_lt (g2.row (row_keep K2.out HB0.out) HNN.out); clear g1 g2)
      | (go_at_call 34; (with_reducible refine (c_rCollect roots _ B w3 ((H1.out.rp.keep K2.out).tr G2.out (ap_sym H1.out.ap)) H1.out.ok (G2.out.rl goodI (HL1.out.keep goodI K2.out) (selN HB.out))).mono ?_); rintro e w4 ⟨rfl, M', g1, g2, g3⟩; have G4 := Lib.hid g1; have G5 := Lib.hid g2; have G6 := Lib.hid g3; clear g1 g2 g3))
    go_ret
    rw [HS.out]
    exact ⟨by simp, AfterB.both HH.out (HK1.out.trans K2.out) G1.out G2.out (fun k hk => .inl hk) (Kp.refl _) G4.out G5.out G6.out (HH.out.ok.colP _)⟩
  have b4 : (k == 4) = false := by simpa using k4
  by_cases k5 : k = 5
  · subst k5
    have HS := Lib.hid (show actP bud S ⟨5, o, i, n, refs, roots⟩ = S by unfold actP; simp)
    clear k1 k2 k3 k4
    go_wp2_with (first
      | (go_at_call 19; refine (c_ints roots _ B w1 HL1.out).mono ?_; rintro e w2 ⟨u2, rfl, g1, g2⟩; obtain ⟨au, cu, rfl⟩ := g1.sl; have I1 := Lib.hid g1; have K2 := Lib.hid g2; clear g1 g2)
      | (go_at_call 26; (with_reducible refine (c_Reach roots _ _ w2 (H1.out.hp.keep K2.out) H1.out.ok I1.out).mono ?_); rintro e w3 ⟨u3, rfl, g1, g2⟩; obtain ⟨au3, cu3, rfl⟩ := g1.sl; have I3 := Lib.hid g1; have K3 := Lib.hid (K2.out.trans g2); obtain ⟨d0, d1, d2, d3, d4, d5⟩ := row6 (row_keep (K2.out.trans g2) HB0.out); have dz := row_lt (row_keep (K2.out.trans g2) HB0.out); clear g1 g2)
      | (go_at_call 17; (with_reducible refine (c_rReach roots _ B w3 (H1.out.rp.keep K3.out) H1.out.ok (HL1.out.keep goodI K3.out)).mono ?_); rintro e w4 ⟨u4, rfl, g1, g2⟩; obtain ⟨au4, cu4, rfl⟩ := g1.sl; have I4 := Lib.hid g1; have K4 := Lib.hid g2; clear g1 g2)
      | (go_at_call 25; (with_reducible refine (c_SameInts _ _ _ _ _ _ w4 (I3.out.keep goodI K4.out) I4.out).mono ?_); rintro e w5 ⟨rfl, g1⟩; rw [same_refl]; have K5 := Lib.hid g1; clear g1))
    go_ret
    rw [HS.out]
    exact ⟨by simp, AfterB.same HH.out (((HK1.out.trans K3.out).trans K4.out).trans K5.out)⟩
  have b5 : (k == 5) = false := by simpa using k5
  by_cases k6 : k = 6
  · subst k6
    have HS := Lib.hid (show actP bud S ⟨6, o, i, n, refs, roots⟩ = S by unfold actP; simp)
    clear k1 k2 k3 k4 k5
    go_wp2_with fail
    go_ret
    rw [HS.out]
    exact ⟨by rfl, AfterB.same HH.out HK1.out⟩
  have b1 : (k == 1) = false := by simpa using k1
  have b6 : (k == 6) = false := by simpa using k6
  have hs : actP bud S ⟨k, o, i, n, refs, roots⟩ = (allocP bud S refs roots).1 := by unfold actP; rw [if_neg k2, if_neg k4, if_neg (by simp [k1, k3, k5, k6])]
  have HS := Lib.hid hs
  clear hs k1 k2 k3 k4 k5 k6
  go_upto_region 24 with fail
  go_cut [24, 25] (fun v24 v25 wx => v24 = .int .i64 (allocP bud S refs roots).2.1 ∧ v25 = .int .i64 (allocP bud S refs roots).2.2 ∧ ∃ N' wa, Kp w1 wa ∧ HP wx N' p bud (allocP bud S refs roots).1 ∧ Tr N wa wx ∧ ∀ k, N' k → N k ∨ wa.heap.size ≤ k)
  case first =>
    obtain ⟨iB, hIB, hB0, hB1, hB2⟩ := info_parts infoBo
    have CA := Lib.hid (fun (W : World) (ur ul : Value) (kw : Kp w1 W) (hb : BoL W (From w1.heap.size) refs ur) (il : IL W A0 roots ul) => c_Alloc refs ur (From w1.heap.size) roots ul A0 W (HP.keep H1.out.hp kw) H1.out.ok hb (selF H1.out.hp) il)
    go_region_law? (first | (refine step_append_copy flatBo (by rfl) _ _ 32 (by rfl) 4 iB _ 1 1 Try.underlying32 hIB hB0 hB1 hB2 rfl (by decide) (by decide) _ (by rfl) w1 B refs _ (by rfl) HR1.out ?_ ?_ ?_ ?_; (focus (repeat first | with_reducible exact Kp.refl _ | (with_reducible refine Kp.drew ?_) | (with_reducible refine Kp.alloc ?_ _) | with_reducible exact K7.out | with_reducible exact KI.out)); (focus (first | omega | (simp; done) | (simp; omega))); (focus ((repeat first | (with_reducible refine at_drew ?_) | (refine heap_at ?_; first | rfl | (simp; done) | omega) | (with_reducible refine at_alloc ?_) | (refine row_keep KI2.out ?_)); done)); intro a7 c7 w7 hr7 hg7 hk7; have R7 := Lib.hid hr7; have G7 := Lib.hid hg7; have K7 := Lib.hid hk7; have z7 := hk7.sz; obtain ⟨d0, d1, d2, d3, d4, d5⟩ := row6 (row_keep hk7 HB0.out); have dz := row_lt (row_keep hk7 HB0.out); clear hr7 hg7 hk7) | (go_simp; go_at_call 19; refine (c_ints roots _ B _ (RL.keep goodI HL1.out ?_)).mono ?_; (focus (repeat first | with_reducible exact Kp.refl _ | (with_reducible refine Kp.drew ?_) | (with_reducible refine Kp.alloc ?_ _) | with_reducible exact K7.out)); rintro e w2 ⟨u2, rfl, g1, g2⟩; obtain ⟨au, cu, rfl⟩ := g1.sl; have I1 := Lib.hid g1; have KI2 := Lib.hid g2; have zi := g2.sz; clear g1 g2) | (go_simp; go_at_call 18; go_loud (refine (CA.out _ _ _ ?_ ?_ ?_).mono ?_); go_loud (focus (repeat first | with_reducible exact K7.out | with_reducible exact Kp.refl _ | (with_reducible refine Kp.back KI2.out ?_) | (with_reducible refine Kp.drew ?_) | (with_reducible refine Kp.alloc ?_ _))); go_loud (focus (first | with_reducible exact R7.out | with_reducible exact RL.keep goodBo R7.out KI2.out)); go_loud (focus (first | with_reducible exact RL.weak goodI I1.out (A0_le _) | (refine RL.weak goodI (RL.turn goodI (RL.keep goodI I1.out ?_) (grown_fr G7.out) G7.out.size ?_) (A0_le _); (focus (repeat first | with_reducible exact Kp.refl _ | (with_reducible refine Kp.drew ?_) | (with_reducible refine Kp.alloc ?_ _))); intro b hb hS e; cases e; have hS2 : _ ≤ _ := hS; omega))); rintro e w3 ⟨rfl, N', g1, g2, g3⟩; have A1 := Lib.hid g1; have A2 := Lib.hid g2; have A3 := Lib.hid g3; clear g1 g2 g3))
    all_goals
      go_wp2_with fail
      go_meet
      refine ⟨rfl, rfl, N', _, ?_, A1.out, A2.out, A3.out⟩
      first
        | with_reducible exact K7.out
        | (repeat first | with_reducible exact K7.out | (with_reducible refine Kp.back KI2.out ?_) | with_reducible exact Kp.refl _ | (with_reducible refine Kp.drew ?_) | (with_reducible refine Kp.alloc ?_ _))
  case rest =>
    obtain ⟨rfl, rfl, N', wa, hka, g1, g2, g3⟩ := hcut
    have KA := Lib.hid hka
    have G1 := Lib.hid g1
    have G2 := Lib.hid g2
    have G3 := Lib.hid g3
    have hnn := row_keep hka HB0.out
    obtain ⟨d0, d1, d2, d3, d4, d5⟩ := row6 (g2.row hnn HNN.out)
    have dz := row_lt (g2.row hnn HNN.out)
    clear hka g1 g2 g3 hnn
    go_wp2_with (go_at_call 35; (with_reducible refine (c_rAlloc refs _ B roots _ B wc ((H1.out.rp.keep KA.out).tr G2.out (ap_sym H1.out.ap)) H1.out.ok (G2.out.rl goodBo (hr1 KA.out HR1.out) (selN HB.out)) (selM HB.out) (G2.out.rl goodI (HL1.out.keep goodI KA.out) (selN HB.out))).mono ?_); rintro e w4 ⟨rfl, M', g1, g2, g3⟩; have G4 := Lib.hid g1; have G5 := Lib.hid g2; have G6 := Lib.hid g3; clear g1 g2 g3)
    go_ret
    rw [HS.out]
    exact ⟨by rfl, AfterB.both HH.out (HK1.out.trans KA.out) G1.out G2.out G3.out (Kp.refl _) G4.out G5.out G6.out (HH.out.ok.allocP _ _)⟩
end Go.Proofs.Ytkaeigklhdpifaa
