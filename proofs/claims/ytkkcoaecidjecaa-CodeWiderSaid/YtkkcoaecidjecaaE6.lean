/- A region that draws its order: 'times[k]++', a map keyed by the numbers of shapes. Condition: the map and the key lie in memory. -/
import Derived.Test.YtkkcoaecidjecaaE5
import Derived.Test.YtkkcoaecidjecaaInv
namespace Go.Proofs.Ytkkcoaecidjecaa
open Go.RowKit
open Go.Maps (Keyed)
open Go.WideMaps
set_option linter.unusedVariables false
set_option linter.unusedSimpArgs false
theorem zeroI (w : World) : (zeroValue 3).run Try.prog w = .ok (.int .i64 0) w := Try.zeroValue3 w
theorem keyArr : ArrKey Try.prog 118 3 19 := ⟨Try.underlying118, by kernel_rfl, by kernel_rfl, by kernel_rfl⟩
theorem keyLaw : KeyLaw Try.prog 118 := keyArr.law
theorem keyKd : Keyed Try.prog 118 := Keyed.of_law keyLaw
def okI (s : Sh) : Prop := i64 s.k ∧ i64 s.r ∧ ∀ x ∈ s.l, i64 x
theorem i64_wf {x : Int} (h : i64 x) : (Lit.int .i64 x).wf = true := by
  unfold i64 at h
  simp [Lit.wf, IntKind.min, IntKind.max, IntKind.signed, IntKind.bits]
  omega
theorem key_reads (s : Sh) (h : okI s) (hl : s.l.length ≤ 16) : ∃ l, keyOf Try.prog 118 (keyV s) = some l := by
  refine keyOf_arr keyArr Try.underlying3 ⟨Try.prog.types.size - 1, (Nat.sub_add_cancel (of_decide_eq_true (by kernel_rfl) : 1 ≤ Try.prog.types.size)).symm⟩ (keyL s) (keyP_len (Nat.le_refl _) hl) fun x hx => i64_wf ?_
  simp only [keyL, keyP, List.mem_cons, List.take_length, List.mem_append, List.mem_replicate] at hx
  rcases hx with rfl | rfl | rfl | hx | ⟨_, rfl⟩
  · exact h.1
  · exact h.2.1
  · unfold i64; omega
  · exact h.2.2 x hx
  · unfold i64; omega
theorem Ke.ofGrown {b : Nat} {w w' : World} (g : w.grownBy w' (some b)) : Ke b w w' := ⟨g.os, g.tape, g.output, g.size, fun k hk hb => g.block k hk (fun e => hb (by cases e; rfl))⟩
/-- Between what finds an entry's place and what writes it. -/
def Mid (P : Program) (t k : TypeId) (b n : Nat) (f : Value → Option Value) (s : Value) (st : Nat) (w : World) : Prop :=
  ∃ es1 clock1, w.heap[b]? = some (.map es1 clock1) ∧ ∀ (w2 : World) (val : Value), w2.heap[b]? = some (.map es1 clock1) →
    ∃ w3, (Instr.entryStore t (.map (some b)) (goInt (st : Nat)) val).run P w2 = .ok () w3 ∧ MapV w3 P k b (n + 1) (vput f s val) ∧ w2.grownBy w3 (some b)
def oK0 : Oper := { dst := some 26, op := Op.move (Operand.tmp 4), type := 115, pos := "form.go:37", after := #[], guard := none }
def oK1 : Oper := { dst := some 27, op := Op.load 118 (Operand.tmp 7), type := 118, pos := "form.go:37", after := #[], guard := none }
def oK2 : Oper := { dst := some 28, op := Op.lookup 115 (Operand.tmp 26) (Operand.tmp 27) false, type := 3, pos := "form.go:37", after := #[{ on := 0, ground := Ground.data }, { on := 1, ground := Ground.data }], guard := none }
def oK3 : Oper := { dst := some 29, op := Op.binOp BinOp.add 3 (Operand.tmp 28) (Operand.const (Value.int IntKind.i64 1)) 3, type := 3, pos := "form.go:37", after := #[{ on := 2, ground := Ground.data }], guard := none }
def oK4 : Oper := { dst := some 30, op := Op.mapEntry 115 (Operand.tmp 26) (Operand.tmp 27), type := 0, pos := "form.go:37", after := #[{ on := 0, ground := Ground.data }, { on := 1, ground := Ground.data }, { on := 0, ground := Ground.phase }, { on := 1, ground := Ground.phase }, { on := 2, ground := Ground.textOnly Departure.mapOpAssignEntry }, { on := 3, ground := Ground.textOnly Departure.mapOpAssignEntry }], guard := none }
def oK5 : Oper := { dst := some 31, op := Op.extract (Operand.tmp 30) 1, type := 3, pos := "form.go:37", after := #[{ on := 4, ground := Ground.data }], guard := none }
def oK6 : Oper := { dst := none, op := Op.entryStore 115 (Operand.tmp 26) (Operand.tmp 31) (Operand.tmp 29), type := 0, pos := "form.go:37", after := #[{ on := 0, ground := Ground.data }, { on := 5, ground := Ground.data }, { on := 3, ground := Ground.data }, { on := 4, ground := Ground.chain }, { on := 0, ground := Ground.phase }, { on := 1, ground := Ground.phase }, { on := 2, ground := Ground.phase }, { on := 3, ground := Ground.phase }, { on := 4, ground := Ground.phase }, { on := 5, ground := Ground.phase }], guard := none }
def rgK : Array Oper := #[oK0, oK1, oK2, oK3, oK4, oK5, oK6]
def WK : List Nat := [26, 27, 28, 29, 30, 31]
abbrev mt := 115
abbrev kt := 118
structure GK (wB : World) (b n : Nat) (f : Value → Option Value) (s : Value) (u : Int) (l : Nat → Bool) (v : Nat → Value) (w : World) : Prop where
  ke : Ke b wB w
  f0 : l 0 = true → v 26 = .map (some b)
  f1 : l 1 = true → v 27 = s
  f2 : l 2 = true → v 28 = .int .i64 u
  f3 : l 3 = true → l 2 = true ∧ v 29 = .int .i64 (u + 1)
  m0 : l 4 = false → MapV w Try.prog kt b n f
  m1 : l 4 = true → l 6 = false → MapV w Try.prog kt b (n + 1) (vput f s (.int .i64 u))
  f4 : l 4 = true → ∃ v0, ∃ st : Nat, v 30 = .tuple #[v0, goInt (st : Nat)] ∧ (l 6 = false → Mid Try.prog mt kt b n f s st w)
  f5 : l 5 = true → l 4 = true ∧ ∃ v0, ∃ st : Nat, v 30 = .tuple #[v0, goInt (st : Nat)] ∧ v 31 = goInt (st : Nat)
  f6 : l 6 = true → l 2 = true ∧ l 4 = true ∧ MapV w Try.prog kt b (n + 1) (vput f s (.int .i64 (u + 1)))
set_option maxRecDepth 100000 in
set_option maxHeartbeats 3200000 in
theorem regK (a0 : Act) (w : World) {id : Nat} {Q : Exit → Act → World → Prop} (b n kb : Nat) (f : Value → Option Value) (s : Sh) (u : Int) (hz : ∀ k ∈ WK, k < a0.tmps.size)
    (e4 : a0.eval (.tmp 4) = .map (some b)) (e7 : a0.eval (.tmp 7) = .pointer (some ⟨kb, 0, none⟩)) (rk : w.heap[kb]? = some (.cells ((keyL s).map (Value.int .i64)).toArray 118 (0, 0))) (hkb : kb ≠ b)
    (hi : okI s) (hl : s.l.length ≤ 16) (hm : MapV w Try.prog kt b n f) (hn : n < maxLen) (hu : (f (keyV s)).getD (.int .i64 0) = .int .i64 u) (hu2 : 0 ≤ u ∧ u < 1000000)
    (hend : ∀ (v : Nat → Value) (w' : World), MapV w' Try.prog kt b (n + 1) (vput f (keyV s) (.int .i64 (u + 1))) → Ke b w w' → Q .normal (WK.foldl (fun b k => b.put (some k) (v k)) a0) w') :
    (Code.region id rgK true).wp Try.prog Q a0 w := by
  have HEND := Lib.hid hend
  clear hend
  obtain ⟨kl, hkl⟩ := key_reads s hi hl
  have hsz : (Try.prog.info? 118).map (·.size) = some ((keyL s).map (Value.int .i64)).toArray.size := key_sz s (Nat.le_refl _) hl
  refine wp_region_inv (by kernel_rfl) (fun l a w1 => ∃ v, Slots a0 WK v a ∧ GK w b n f (keyV s) u l v w1) (edges_back (by kernel_rfl)) ⟨_, Slots.start a0 _, ?_⟩ ?_ ?_
  · exact ⟨(Ke.refl b w).kp ((Kp.refl w).drew), (fun e => by cases e), (fun e => by cases e), (fun e => by cases e), (fun e => by cases e), fun _ => hm.keep ((Kp.refl w).drew), (fun e => by cases e), (fun e => by cases e), (fun e => by cases e), (fun e => by cases e)⟩
  · intro i o l a w1 ho hl0 hd ⟨v, hS, hG⟩
    match i, ho, hl0 with
    | 0, ho, hl0 =>
      obtain rfl : oK0 = o := Option.some.inj ho
      refine wpOp_step ho (fun K hK => step_go rfl ?_)
      have e0 := (hS.old (k := 4) (by decide)).trans e4
      refine step_val (w' := w1) (.map (some b)) (by simp [execOp, oK0, e0]) (hK _ _ ⟨_, hS.put (by decide) hz _, ?_⟩)
      exact ⟨hG.ke, fun _ => rfl, hG.f1, hG.f2, hG.f3, hG.m0, hG.m1, hG.f4, hG.f5, hG.f6⟩
    | 1, ho, hl0 =>
      obtain rfl : oK1 = o := Option.some.inj ho
      refine wpOp_step ho (fun K hK => step_go rfl ?_)
      refine wp_load_row 118 _ rfl kb ((hS.old (by decide)).trans e7) 118 ((keyL s).map (Value.int .i64)).toArray (0, 0) _ (hG.ke.row rk hkb) Try.underlying118 rfl hsz (hK _ _ ⟨_, hS.put (by decide) hz _, ?_⟩)
      exact ⟨hG.ke, hG.f0, fun _ => rfl, hG.f2, hG.f3, hG.m0, hG.m1, hG.f4, hG.f5, hG.f6⟩
    | 2, ho, hl0 =>
      obtain rfl : oK2 = o := Option.some.inj ho
      refine wpOp_step ho (fun K hK => step_go rfl ?_)
      have e0 := (hS.ev 26 (by decide)).trans (hG.f0 (hd ⟨0, .data⟩ (by simp [oK2]) rfl))
      have e1 := (hS.ev 27 (by decide)).trans (hG.f1 (hd ⟨1, .data⟩ (by simp [oK2]) rfl))
      have h6 : l 6 = false := by
        cases hq : l 6 with
        | false => rfl
        | true => exact absurd ((hG.f6 hq).1.symm.trans hl0) (by decide)
      have hrun : (Instr.lookup mt (.map (some b)) (keyV s) false).run Try.prog w1 = .ok (.int .i64 u) w1 := by
        cases hq : l 4 with
        | false => rw [(mapV_look (hG.m0 hq) keyKd Try.underlying115 (zeroI w1) hkl).2, hu]
        | true => rw [(mapV_look (hG.m1 hq h6) keyKd Try.underlying115 (zeroI w1) hkl).2, vput_same]; rfl
      refine step_val (w' := w1) (.int .i64 u) (by simp [execOp, oK2, e0, e1, hrun, Result.andThen]) (hK _ _ ⟨_, hS.put (by decide) hz _, ?_⟩)
      exact ⟨hG.ke, hG.f0, hG.f1, fun _ => rfl, fun e => ⟨rfl, (hG.f3 e).2⟩, hG.m0, hG.m1, hG.f4, hG.f5, fun e => ⟨rfl, (hG.f6 e).2⟩⟩
    | 3, ho, hl0 =>
      obtain rfl : oK3 = o := Option.some.inj ho
      refine wpOp_step ho (fun K hK => step_go rfl ?_)
      have c2 := hd ⟨2, .data⟩ (by simp [oK3]) rfl
      have e0 := (hS.ev 28 (by decide)).trans (hG.f2 c2)
      refine step_val (w' := w1) (.int .i64 (u + 1)) (by have e1 := e0; simp [Act.eval] at e1; simp [execOp, oK3, e1, go_sem]; rw [IntKind.wrap_i64]; omega) (hK _ _ ⟨_, hS.put (by decide) hz _, ?_⟩)
      exact ⟨hG.ke, hG.f0, hG.f1, hG.f2, fun _ => ⟨c2, rfl⟩, hG.m0, hG.m1, hG.f4, hG.f5, hG.f6⟩
    | 4, ho, hl0 =>
      obtain rfl : oK4 = o := Option.some.inj ho
      refine wpOp_step ho (fun K hK => step_go rfl ?_)
      have e0 := (hS.ev 26 (by decide)).trans (hG.f0 (hd ⟨0, .data⟩ (by simp [oK4]) rfl))
      have e1 := (hS.ev 27 (by decide)).trans (hG.f1 (hd ⟨1, .data⟩ (by simp [oK4]) rfl))
      obtain ⟨v0, st, w2, es1, clock1, hrun, hg, hm1, hb, hst⟩ := mapV_entry (hG.m0 hl0) keyLaw Try.underlying115 zeroI hn hkl
      rw [hu] at hm1
      have h6 : l 6 = false := by
        cases hq : l 6 with
        | false => rfl
        | true => exact absurd ((hG.f6 hq).2.1.symm.trans hl0) (by decide)
      refine step_val (w' := w2) (.tuple #[v0, goInt (st : Nat)]) (by simp [execOp, oK4, e0, e1, hrun, Result.andThen]) (hK _ _ ⟨_, hS.put (by decide) hz _, ?_⟩)
      exact ⟨hG.ke.trans (Ke.ofGrown hg), hG.f0, hG.f1, hG.f2, hG.f3, fun (e : true = false) => (by cases e), fun _ _ => hm1, fun _ => ⟨v0, st, rfl, fun _ => ⟨es1, clock1, hb, hst⟩⟩, fun e => absurd ((hG.f5 e).1.symm.trans hl0) (by decide), fun e => absurd (h6.symm.trans e) (by decide)⟩
    | 5, ho, hl0 =>
      obtain rfl : oK5 = o := Option.some.inj ho
      refine wpOp_step ho (fun K hK => step_go rfl ?_)
      have c4 := hd ⟨4, .data⟩ (by simp [oK5]) rfl
      obtain ⟨v0, st, e0, _⟩ := hG.f4 c4
      have e1 := (hS.ev 30 (by decide)).trans e0
      refine step_val (w' := w1) (goInt (st : Nat)) (by simp [execOp, oK5, e1, Instr.extract]) (hK _ _ ⟨_, hS.put (by decide) hz _, ?_⟩)
      exact ⟨hG.ke, hG.f0, hG.f1, hG.f2, hG.f3, hG.m0, hG.m1, hG.f4, fun _ => ⟨c4, v0, st, e0, rfl⟩, hG.f6⟩
    | 6, ho, hl0 =>
      obtain rfl : oK6 = o := Option.some.inj ho
      refine wpOp_step ho (fun K hK => step_go rfl ?_)
      obtain ⟨c4, v0, st, e2, e3⟩ := hG.f5 (hd ⟨5, .data⟩ (by simp [oK6]) rfl)
      obtain ⟨v1, st', e5, hmid⟩ := hG.f4 c4
      obtain rfl : st = st' := by
        rw [e2] at e5
        simp [goInt] at e5
        omega
      obtain ⟨c2, e6⟩ := hG.f3 (hd ⟨3, .data⟩ (by simp [oK6]) rfl)
      have x0 := (hS.ev 26 (by decide)).trans (hG.f0 (hd ⟨0, .data⟩ (by simp [oK6]) rfl))
      have x1 := (hS.ev 31 (by decide)).trans e3
      have x2 := (hS.ev 29 (by decide)).trans e6
      obtain ⟨es1, clock1, hb, hst⟩ := hmid hl0
      obtain ⟨w3, hrun, hm2, hg⟩ := hst w1 (.int .i64 (u + 1)) hb
      rw [goInt] at hrun x1
      unfold Oper.wp
      simp [execOp, oK6, x0, x1, x2, hrun, Result.andThen]
      refine hK _ _ ⟨v, hS, ?_⟩
      exact ⟨hG.ke.trans (Ke.ofGrown hg), hG.f0, hG.f1, hG.f2, hG.f3, fun e => absurd (c4.symm.trans e) (by decide), fun _ (e : true = false) => (by cases e), fun e => let ⟨a, b, c, _⟩ := hG.f4 e; ⟨a, b, c, fun (e : true = false) => (by cases e)⟩, hG.f5, fun _ => ⟨c2, c4, hm2⟩⟩
    | i + 7, ho, hl0 => exact absurd ho (by simp [rgK])
  · intro l a w1 hall ⟨v, hS, hG⟩
    rw [hS.refit hz]
    exact HEND.out v w1 (hG.f6 (hall 6 (by decide))).2.2 hG.ke
end Go.Proofs.Ytkkcoaecidjecaa
