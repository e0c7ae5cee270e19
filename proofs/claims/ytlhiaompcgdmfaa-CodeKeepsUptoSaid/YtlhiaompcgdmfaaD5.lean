/- What the program's reader does with a list of numbers. Condition: the reader lies so. -/
import Derived.Test.YtlhiaompcgdmfaaD4
namespace Go.Proofs.Ytlhiaompcgdmfaa
open Go.RowKit
set_option linter.unusedVariables false
set_option linter.unusedSimpArgs false
/-- A store in the box of the list, or elsewhere behind all that is old. -/
theorem RD.set {w : World} {n rb ra ro : Nat} {l : List UInt8} {st : St} (h : RD w n rb ra ro l st) (p j : Nat) (v : Value) (hp : p ≠ rb ∧ p ≠ ra ∧ p ≠ ro ∧ n ≤ p) : RD (w.setCell ⟨p, j, none⟩ v) n rb ra ro l st :=
  h.turn (by simp) (Fr.set _ _ _) (fun k e => by simp at e; subst e; exact hp)
theorem WS.set {ra ro : Nat} {w0 w : World} (h : WS ra ro w0 w) (p j : Nat) (v : Value) (hp : w0.heap.size ≤ p) : WS ra ro w0 (w.setCell ⟨p, j, none⟩ v) :=
  ⟨h.os, h.tape, h.output, by have := h.sz; simp; omega, fun k hk a b => (Below.heap_setCell _ _ _ _ (by simp; omega)).trans (h.blk k hk a b)⟩
theorem GR.form {α : Type} {e : TypeId} {m : Nat} {L : Ly α} {w : World} {B : Nat} {l : List α} {v : Value} (h : GR e m L w B l v) : ∃ ad c, v = .slice ad l.length c := by
  obtain ⟨C, h1, h2, h3⟩ := h
  obtain ⟨ad, c, he, _⟩ := tab_of_owns h2 (fun i => (h1 i).1)
  exact ⟨ad, c, he⟩
theorem ret_il {fn : Func} {R : Ending → World → Prop} {a : Act} {w : World} {r b n c : Nat} {ad : Option Addr} (hfn : fn.results = #[ResultVar.cell r 33]) (ha : a.tmps[r]? = some (.pointer (some ⟨b, 0, none⟩))) (hc : w.cell? ⟨b, 0, none⟩ = some (.slice ad n c)) (hd : a.defers = [])
    (hR : R (.returned (.slice ad n c)) w) : bodyPost Try.prog fn R .ret a w := by
  refine bodyPost_ret (by simp [results, hfn, go_sem, ha, hc]; try rfl) hd hR
set_option maxHeartbeats 1600000 in
set_option maxRecDepth 100000 in
theorem c_ints (n rb ra ro : Nat) (l : List UInt8) (st : St) (w : World) (h : RD w n rb ra ro l st) :
    Calls Try.prog 73 #[.agg #[.func (.func 46) #[] #[.pointer (some ⟨rb, 0, none⟩), .pointer (some ⟨ra, 0, none⟩), .pointer (some ⟨ro, 0, none⟩)], .func (.func 48) #[] #[.pointer (some ⟨ro, 0, none⟩)]]] w (RdP pInts (fun w' x v => IL w' (From w.heap.size) x v) n rb ra ro l st w) := by
  have k1 := (Kp.refl w).alloc (.cells #[.func (.func 46) #[] #[.pointer (some ⟨rb, 0, none⟩), .pointer (some ⟨ra, 0, none⟩), .pointer (some ⟨ro, 0, none⟩)], .func (.func 48) #[] #[.pointer (some ⟨ro, 0, none⟩)]] 95)
  have k2 := k1.alloc (.cells #[.slice none 0 0] 33)
  obtain ⟨l1, l2, l3⟩ := h.lt
  obtain ⟨n1, n2, n3, n4, n5⟩ := h.ne
  have hx := row_keep ((Kp.refl _).alloc (.cells #[.slice none 0 0] 33)) (heap_alloc_new w (.cells #[.func (.func 46) #[] #[.pointer (some ⟨rb, 0, none⟩), .pointer (some ⟨ra, 0, none⟩), .pointer (some ⟨ro, 0, none⟩)], .func (.func 48) #[] #[.pointer (some ⟨ro, 0, none⟩)]] 95))
  have hp := heap_alloc_new (w.alloc (.cells #[.func (.func 46) #[] #[.pointer (some ⟨rb, 0, none⟩), .pointer (some ⟨ra, 0, none⟩), .pointer (some ⟨ro, 0, none⟩)], .func (.func 48) #[] #[.pointer (some ⟨ro, 0, none⟩)]] 95)) (.cells #[.slice none 0 0] 33)
  simp only [World.size_alloc] at hp
  have HE := Lib.hid (each_I (pSmall 0) n rb ra ro (w.heap.size + 1) w.heap.size 0 l _ (accG_ok (j := 0) (cs := fun v => #[v]) (T := 33) (e := 3) (wb := (w.alloc (.cells #[.func (.func 46) #[] #[.pointer (some ⟨rb, 0, none⟩), .pointer (some ⟨ra, 0, none⟩), .pointer (some ⟨ro, 0, none⟩)], .func (.func 48) #[] #[.pointer (some ⟨ro, 0, none⟩)]] 95)).alloc (.cells #[.slice none 0 0] 33)) (p := w.heap.size + 1) (ra := ra) (ro := ro) goodI (fun v => rfl) (by simp; omega) (by simp; omega) (by simp) (by omega) (by omega)) (fun w' acc st' hr ha hl => part_I n rb ra ro (w.heap.size + 1) w.heap.size l _ (by simp; omega) (by simp; omega) (by simp; omega) (by simp) (by omega) (by omega) (by omega) (by omega) hx (by omega) (by omega) (by omega) w' acc st' hr ha hl) _ st (h.keep k2) ⟨⟨_, hp, gr_nil⟩, rfl, rfl, rfl, Nat.le_refl _, fun _ _ _ _ _ => rfl, by simp⟩)
  have HK := Lib.hid k2
  obtain ⟨c0, c1⟩ := row2 hx
  have z1 : ra < w.heap.size := l1
  clear k1 k2 hx hp h
  go_enter Try.func73, Try.ntmps73
  go_wp2_with (go_at_call 63; (with_reducible refine HE.out.mono ?_); rintro e w3 ⟨rfl, acc, hg, hr, ha⟩; have HGE := Lib.hid hg; have HR3 := Lib.hid hr; have HA3 := Lib.hid ha; obtain ⟨v, h3, h4⟩ := ha.row; obtain ⟨ad, c, rfl⟩ := h4.form; clear ha; have HV3 := Lib.hid h3; have HG3 := Lib.hid h4; have q0 := row_cell h3 0; have qf := frozen_of_row _ _ 0 _ _ h3; clear hg hr h3 h4 c0 c1)
  have hsame := heap_setCell_same w3 (w.heap.size + 1) 0 _ _ (.slice ad acc.length c) HV3.out
  have hl := HA3.out.len
  refine ret_il (by rfl) (by rfl) (row_cell hsame 0) (by rfl) ⟨acc, _, rfl, ?_, HGE.out, HR3.out.set _ _ _ ⟨by omega, by omega, by omega, by omega⟩, (HA3.out.ws (by simp; omega) HK.out (by omega)).set _ _ _ (by omega)⟩
  have hg3 := HG3.out.all (by_ := 8) goodI (by omega)
  refine (hg3.turn goodI (Fr.set w3 ⟨w.heap.size + 1, 0, none⟩ (.slice ad acc.length c)) (by simp) (fun b _ hb e => ?_)).weak goodI (From_le (by simp; omega))
  simp only [From, World.size_alloc] at hb e
  omega
end Go.Proofs.Ytlhiaompcgdmfaa
