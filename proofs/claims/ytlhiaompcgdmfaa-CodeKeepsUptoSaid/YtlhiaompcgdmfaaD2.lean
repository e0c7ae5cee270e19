/- The program's reader: how it lies, and what it does with a number. Condition: its boxes are three, behind the bytes. -/
import Derived.Test.YtlhiaompcgdmfaaD1
namespace Go.Proofs.Ytlhiaompcgdmfaa
open Go.RowKit
set_option linter.unusedVariables false
set_option linter.unusedSimpArgs false
def stAt : St → Nat
  | .ok p => p
  | .error p => p
def stOff : St → Bool
  | .ok _ => false
  | .error _ => true
/-- The reader's boxes: the bytes' slice, how far it is, whether one was at fault; the bytes lie under block n. -/
structure RD (w : World) (n rb ra ro : Nat) (l : List UInt8) (st : St) : Prop where
  hb : ∃ v, w.heap[rb]? = some (.cells #[v] 37 (0, 0)) ∧ BL w (Und n) l v
  ha : w.heap[ra]? = some (.cells #[.int .i64 (stAt st : Int)] 3 (0, 0))
  ho : w.heap[ro]? = some (.cells #[.bool (stOff st)] 4 (0, 0))
  ne : rb ≠ ra ∧ rb ≠ ro ∧ ra ≠ ro ∧ n ≤ ra ∧ n ≤ ro
  le : stAt st ≤ l.length ∧ l.length ≤ 1048576
/-- But for the reader's two boxes nothing of what was there has turned. -/
structure WS (ra ro : Nat) (w w' : World) : Prop where
  os : w'.os = w.os
  tape : w'.tape = w.tape
  output : w'.output = w.output
  sz : w.heap.size ≤ w'.heap.size
  blk : ∀ k, k < w.heap.size → k ≠ ra → k ≠ ro → w'.heap[k]? = w.heap[k]?
theorem WS.refl (ra ro : Nat) (w : World) : WS ra ro w w := ⟨rfl, rfl, rfl, Nat.le_refl _, fun _ _ _ _ => rfl⟩
theorem WS.trans {ra ro : Nat} {a b c : World} (h : WS ra ro a b) (k : WS ra ro b c) : WS ra ro a c :=
  ⟨k.os.trans h.os, k.tape.trans h.tape, k.output.trans h.output, Nat.le_trans h.sz k.sz, fun i hi h1 h2 => (k.blk i (Nat.lt_of_lt_of_le hi h.sz) h1 h2).trans (h.blk i hi h1 h2)⟩
theorem Kp.ws {ra ro : Nat} {w w' : World} (h : Kp w w') : WS ra ro w w' := ⟨h.os, h.tape, h.output, h.sz, fun k hk _ _ => h.blk hk⟩
theorem WS.heap {ra ro : Nat} {w w' : World} (h : WS ra ro w w') {b : Nat} {o : Obj} (hc : w.heap[b]? = some o) (h1 : b ≠ ra) (h2 : b ≠ ro) : w'.heap[b]? = some o := (h.blk b (row_lt hc) h1 h2).trans hc
theorem WS.fr {ra ro : Nat} {w w' : World} (h : WS ra ro w w') : Fr (fun k => k = ra ∨ k = ro) w w' := fun k hk hn => h.blk k hk (fun e => hn (.inl e)) (fun e => hn (.inr e))
theorem WS.old {ra ro : Nat} {a w w' : World} (h : WS ra ro w w') (k : Kp a w) (h1 : a.heap.size ≤ ra) (h2 : a.heap.size ≤ ro) : Kp a w' :=
  ⟨h.os.trans k.os, h.tape.trans k.tape, h.output.trans k.output, Nat.le_trans k.sz h.sz, fun i hi => (h.blk i (Nat.lt_of_lt_of_le hi k.sz) (by omega) (by omega)).trans (k.blk hi)⟩
theorem RD.keep {w w' : World} {n rb ra ro : Nat} {l : List UInt8} {st : St} (h : RD w n rb ra ro l st) (hk : Kp w w') : RD w' n rb ra ro l st := by
  obtain ⟨v, h1, h2⟩ := h.hb
  exact ⟨⟨v, row_keep hk h1, h2.keep goodB hk⟩, row_keep hk h.ha, row_keep hk h.ho, h.ne, h.le⟩
theorem RD.lt {w : World} {n rb ra ro : Nat} {l : List UInt8} {st : St} (h : RD w n rb ra ro l st) : ra < w.heap.size ∧ ro < w.heap.size ∧ rb < w.heap.size := by
  obtain ⟨v, h1, h2⟩ := h.hb
  exact ⟨row_lt h.ha, row_lt h.ho, row_lt h1⟩
/-- The rest of the bytes. -/
theorem bl_drop {w : World} {B : Sel} (hB : ¬ B.fresh) {l : List UInt8} {a : Option Addr} {c p : Nat} (h : BL w B l (.slice a l.length c)) (hp : p ≤ l.length) : ∀ b o, a = some ⟨b, o, none⟩ → BL w B (l.drop p) (.slice (some ⟨b, o + p, none⟩) (l.drop p).length (c - p)) := by
  intro b o ha
  subst ha
  obtain ⟨_, _, C, he, hlc, hby, hC, ht, hx⟩ := h
  simp only [Value.slice.injEq, true_and] at he
  obtain ⟨rfl, rfl⟩ := he
  refine ⟨_, _, fun i => C (p + i), rfl, by simp; omega, by simp; omega, fun i => hC _, ⟨fun h => (by cases h), fun h0 => ?_⟩, fun i x hi => hx _ x (by rw [List.getElem?_drop] at hi; exact hi)⟩
  have h0' : 0 < l.length := by simp at h0; omega
  obtain ⟨b', o', e, hS, hl, hf, hr⟩ := ht.2 h0'
  cases e
  refine ⟨_, _, rfl, hS, hl, fun hf => absurd hf hB, fun i hi => ?_⟩
  have := hr (p + i) (by simp at hi; omega)
  rwa [show o + (p + i) * 1 = o + p + i * 1 by omega] at this
theorem step2 {most : Nat} {l : List UInt8} {p : Nat} : numR most l (.ok p) = if (firstR (l.drop p)).2 = 0 ∨ most < (firstR (l.drop p)).1 then (0, .error p) else ((firstR (l.drop p)).1, .ok (p + (firstR (l.drop p)).2)) := by
  simp only [numR, pUpto]
  rw [firstR_num]
  by_cases h : (firstR (l.drop p)).2 = 0
  · simp [h]
  · by_cases h2 : most < (firstR (l.drop p)).1
    · simp [h, h2]
    · simp [h, h2]
/-- What comes of a number. -/
def NumP (most n rb ra ro : Nat) (l : List UInt8) (st : St) (w : World) (e : Ending) (w' : World) : Prop := e = .returned (.int .u64 ((numR most l st).1 : Int)) ∧ RD w' n rb ra ro l (numR most l st).2 ∧ WS ra ro w w'
theorem RD.off {w : World} {n rb ra ro p : Nat} {l : List UInt8} {st : St} (h : RD w n rb ra ro l st) (hp : p = stAt st) : RD (w.setCell ⟨ro, 0, none⟩ (.bool true)) n rb ra ro l (.error p) ∧ WS ra ro w (w.setCell ⟨ro, 0, none⟩ (.bool true)) := by
  subst hp
  obtain ⟨v, h1, h2⟩ := h.hb
  obtain ⟨n1, n2, n3, n4, n5⟩ := h.ne
  refine ⟨⟨⟨v, (Below.heap_setCell _ _ _ _ (by simp; omega)).trans h1, h2.turn goodB (Fr.set _ _ _) (by simp) (fun b _ (hb : b < n) e => by simp at e; omega)⟩, (Below.heap_setCell _ _ _ _ (by simp; omega)).trans h.ha, by simpa [stOff] using heap_setCell_same w ro 0 _ _ (.bool true) h.ho, h.ne, h.le⟩, ⟨rfl, rfl, rfl, by simp, fun k hk h1 h2 => Below.heap_setCell _ _ _ _ (by simp; omega)⟩⟩
theorem RD.on {w : World} {n rb ra ro p q : Nat} {x : Int} {l : List UInt8} (h : RD w n rb ra ro l (.ok p)) (hq : q ≤ l.length) (hx : x = (q : Int)) : RD (w.setCell ⟨ra, 0, none⟩ (.int .i64 x)) n rb ra ro l (.ok q) ∧ WS ra ro w (w.setCell ⟨ra, 0, none⟩ (.int .i64 x)) := by
  subst hx
  obtain ⟨v, h1, h2⟩ := h.hb
  obtain ⟨n1, n2, n3, n4, n5⟩ := h.ne
  refine ⟨⟨⟨v, (Below.heap_setCell _ _ _ _ (by simp; omega)).trans h1, h2.turn goodB (Fr.set _ _ _) (by simp) (fun b _ (hb : b < n) e => by simp at e; omega)⟩, by simpa [stAt] using heap_setCell_same w ra 0 _ _ (.int .i64 (q : Int)) h.ha, (Below.heap_setCell _ _ _ _ (by simp; omega)).trans h.ho, h.ne, ⟨hq, h.le.2⟩⟩, ⟨rfl, rfl, rfl, by simp, fun k hk h1 h2 => Below.heap_setCell _ _ _ _ (by simp; omega)⟩⟩
theorem c_first_as (l : List UInt8) (v : Value) (w : World) (m s : Nat) (hf : firstR l = (m, s)) (hl : BL w A0 l v) (hb : l.length ≤ 1048576) :
    Calls Try.prog 47 #[v] w fun e w' => e = .returned (.tuple #[.int .u64 (m : Int), .int .i64 (s : Int)]) ∧ Kp w w' := by
  have := c_first l v w hl hb
  rw [hf] at this
  exact this
theorem bl_none {w : World} {B : Sel} {l : List UInt8} {a : Option Addr} {n c : Nat} (hl : l = []) (hn : n = 0) (ha : a = none → c = 0) : BL w B l (.slice a n c) := by
  subst hl
  subst hn
  exact ⟨a, c, fun _ => [.int .u8 0], rfl, Nat.zero_le _, by simp, fun i => ⟨rfl, by intro u hu; simp at hu; subst hu; rfl⟩, ⟨fun h => ⟨rfl, ha h⟩, fun h => by simp at h⟩, fun i x hx => by simp at hx⟩
theorem stAt_ok (p : Nat) : stAt (.ok p) = p := rfl
set_option maxHeartbeats 1600000 in
set_option maxRecDepth 100000 in
theorem number_some (most n rb ra ro : Nat) (l : List UInt8) (st : St) (w : World) (h : RD w n rb ra ro l st) (b o c : Nat) (hv : w.heap[rb]? = some (.cells #[.slice (some ⟨b, o, none⟩) l.length c] 37 (0, 0))) (hl : BL w (Und n) l (.slice (some ⟨b, o, none⟩) l.length c)) (hlc : l.length ≤ c) (hm : most < 18446744073709551616) :
    Calls Try.prog 46 #[.int .u64 (most : Int), .pointer (some ⟨rb, 0, none⟩), .pointer (some ⟨ra, 0, none⟩), .pointer (some ⟨ro, 0, none⟩)] w (NumP most n rb ra ro l st w) := by
  have HH := Lib.hid h
  have g0 : w.cell? ⟨rb, 0, none⟩ = some (.slice (some ⟨b, o, none⟩) l.length c) := row_cell hv 0
  have g1 : w.cell? ⟨ra, 0, none⟩ = some (.int .i64 (stAt st : Int)) := row_cell h.ha 0
  have g2 : w.cell? ⟨ro, 0, none⟩ = some (.bool (stOff st)) := row_cell h.ho 0
  have f1 := frozen_of_row w ra 0 _ _ h.ha
  have f2 := frozen_of_row w ro 0 _ _ h.ho
  have hp : stAt st ≤ l.length := h.le.1
  have hlen : l.length ≤ 1048576 := h.le.2
  obtain ⟨u, hu⟩ : ∃ u, u = firstR (l.drop (stAt st)) := ⟨_, rfl⟩
  obtain ⟨m, s⟩ := u
  have hs : s ≤ l.length - stAt st := by have := firstR_size (l.drop (stAt st)); rw [← hu] at this; simpa using this
  have HU := Lib.hid hu.symm
  clear hv hu h
  cases st with
  | error p =>
    simp only [stAt, stOff] at *
    have HD := Lib.hid (show BL w A0 (l.drop p) (.slice (some ⟨b, o + p, none⟩) (l.length - p) (c - p)) by rw [← List.length_drop]; exact (bl_drop (fun h => h) hl hp b o rfl).weak goodB (A0_le (Und n)))
    have HE := Lib.hid (fun (e : c = p) => (bl_none (List.drop_eq_nil_of_le (by omega)) (by omega) (fun h => by cases h) : BL w A0 (l.drop p) (.slice (some ⟨b, o, none⟩) (l.length - p) 0)))
    clear hl
    go_enter Try.func46, Try.ntmps46
    go_wp2_with (first | (go_at_call 47; (with_reducible refine (c_first_as (l.drop p) _ _ m s HU.out HD.out (by simp; omega)).mono ?_); rintro e w1 ⟨rfl, hk1⟩; have HK1 := Lib.hid hk1; have g1 := hk1.cellv g1; have g2 := hk1.cellv g2; have f1 := frozen_of_row _ _ 0 _ _ (HH.out.keep hk1).ha; have f2 := frozen_of_row _ _ 0 _ _ (HH.out.keep hk1).ho; clear hk1) | (go_at_call 47; (with_reducible refine (c_first_as (l.drop p) _ _ m s HU.out (HE.out (by omega)) (by simp; omega)).mono ?_); rintro e w1 ⟨rfl, hk1⟩; have HK1 := Lib.hid hk1; have g1 := hk1.cellv g1; have g2 := hk1.cellv g2; have f1 := frozen_of_row _ _ 0 _ _ (HH.out.keep hk1).ha; have f2 := frozen_of_row _ _ 0 _ _ (HH.out.keep hk1).ho; clear hk1))
    all_goals go_ret
    all_goals exact ⟨rfl, (HH.out.keep HK1.out).off rfl |>.1, HK1.out.ws.trans ((HH.out.keep HK1.out).off rfl).2⟩
  | ok p =>
    simp only [stAt, stOff] at *
    have HD := Lib.hid (show BL w A0 (l.drop p) (.slice (some ⟨b, o + p, none⟩) (l.length - p) (c - p)) by rw [← List.length_drop]; exact (bl_drop (fun h => h) hl hp b o rfl).weak goodB (A0_le (Und n)))
    have HE := Lib.hid (fun (e : c = p) => (bl_none (List.drop_eq_nil_of_le (by omega)) (by omega) (fun h => by cases h) : BL w A0 (l.drop p) (.slice (some ⟨b, o, none⟩) (l.length - p) 0)))
    clear hl
    have HS2 := Lib.hid (step2 (most := most) (l := l) (p := p))
    rw [HU.out] at HS2
    by_cases h0 : s = 0
    · have HS3 : Hid (numR most l (.ok p) = (0, .error p)) := Lib.hid (by rw [HS2.out]; simp [h0])
      have e0 : ((s : Int) == 0) = true := by simp [h0]
      clear h0
      go_enter Try.func46, Try.ntmps46
      go_wp2_with (first | (go_at_call 47; (with_reducible refine (c_first_as (l.drop p) _ _ m s HU.out HD.out (by simp; omega)).mono ?_); rintro e w1 ⟨rfl, hk1⟩; have HK1 := Lib.hid hk1; have g1 := hk1.cellv g1; have g2 := hk1.cellv g2; have f1 := frozen_of_row _ _ 0 _ _ (HH.out.keep hk1).ha; have f2 := frozen_of_row _ _ 0 _ _ (HH.out.keep hk1).ho; clear hk1) | (go_at_call 47; (with_reducible refine (c_first_as (l.drop p) _ _ m s HU.out (HE.out (by omega)) (by simp; omega)).mono ?_); rintro e w1 ⟨rfl, hk1⟩; have HK1 := Lib.hid hk1; have g1 := hk1.cellv g1; have g2 := hk1.cellv g2; have f1 := frozen_of_row _ _ 0 _ _ (HH.out.keep hk1).ha; have f2 := frozen_of_row _ _ 0 _ _ (HH.out.keep hk1).ho; clear hk1))
      all_goals go_ret
      all_goals exact ⟨by rw [HS3.out]; rfl, by rw [HS3.out]; exact ((HH.out.keep HK1.out).off rfl).1, HK1.out.ws.trans ((HH.out.keep HK1.out).off rfl).2⟩
    · have e0 : ((s : Int) == 0) = false := by simp; omega
      by_cases h1 : most < m
      · have HS3 : Hid (numR most l (.ok p) = (0, .error p)) := Lib.hid (by rw [HS2.out]; simp [h1])
        have e1 : decide ((most : Int) < m) = true := by simp; omega
        go_enter Try.func46, Try.ntmps46
        go_wp2_with (first | (go_at_call 47; (with_reducible refine (c_first_as (l.drop p) _ _ m s HU.out HD.out (by simp; omega)).mono ?_); rintro e w1 ⟨rfl, hk1⟩; have HK1 := Lib.hid hk1; have g1 := hk1.cellv g1; have g2 := hk1.cellv g2; have f1 := frozen_of_row _ _ 0 _ _ (HH.out.keep hk1).ha; have f2 := frozen_of_row _ _ 0 _ _ (HH.out.keep hk1).ho; clear hk1) | (go_at_call 47; (with_reducible refine (c_first_as (l.drop p) _ _ m s HU.out (HE.out (by omega)) (by simp; omega)).mono ?_); rintro e w1 ⟨rfl, hk1⟩; have HK1 := Lib.hid hk1; have g1 := hk1.cellv g1; have g2 := hk1.cellv g2; have f1 := frozen_of_row _ _ 0 _ _ (HH.out.keep hk1).ha; have f2 := frozen_of_row _ _ 0 _ _ (HH.out.keep hk1).ho; clear hk1))
        all_goals go_ret
        all_goals exact ⟨by rw [HS3.out]; rfl, by rw [HS3.out]; exact ((HH.out.keep HK1.out).off rfl).1, HK1.out.ws.trans ((HH.out.keep HK1.out).off rfl).2⟩
      · have HS3 : Hid (numR most l (.ok p) = (m, .ok (p + s))) := Lib.hid (by rw [HS2.out]; simp [h0, h1])
        have e1 : decide ((most : Int) < m) = false := by simp; omega
        have hps : p + s ≤ l.length := by omega
        go_enter Try.func46, Try.ntmps46
        go_wp2_with (first | (go_at_call 47; (with_reducible refine (c_first_as (l.drop p) _ _ m s HU.out HD.out (by simp; omega)).mono ?_); rintro e w1 ⟨rfl, hk1⟩; have HK1 := Lib.hid hk1; have g1 := hk1.cellv g1; have g2 := hk1.cellv g2; have f1 := frozen_of_row _ _ 0 _ _ (HH.out.keep hk1).ha; have f2 := frozen_of_row _ _ 0 _ _ (HH.out.keep hk1).ho; clear hk1) | (go_at_call 47; (with_reducible refine (c_first_as (l.drop p) _ _ m s HU.out (HE.out (by omega)) (by simp; omega)).mono ?_); rintro e w1 ⟨rfl, hk1⟩; have HK1 := Lib.hid hk1; have g1 := hk1.cellv g1; have g2 := hk1.cellv g2; have f1 := frozen_of_row _ _ 0 _ _ (HH.out.keep hk1).ha; have f2 := frozen_of_row _ _ 0 _ _ (HH.out.keep hk1).ho; clear hk1))
        all_goals go_ret
        all_goals exact ⟨by rw [HS3.out]; rfl, by rw [HS3.out]; exact ((HH.out.keep HK1.out).on hps (by omega)).1, HK1.out.ws.trans ((HH.out.keep HK1.out).on hps (by omega)).2⟩
set_option maxHeartbeats 1600000 in
set_option maxRecDepth 100000 in
theorem number_none (most n rb ra ro : Nat) (l : List UInt8) (st : St) (w : World) (h : RD w n rb ra ro l st) (hv : w.heap[rb]? = some (.cells #[.slice none 0 0] 37 (0, 0))) (hl : l = []) (hm : most < 18446744073709551616) :
    Calls Try.prog 46 #[.int .u64 (most : Int), .pointer (some ⟨rb, 0, none⟩), .pointer (some ⟨ra, 0, none⟩), .pointer (some ⟨ro, 0, none⟩)] w (NumP most n rb ra ro l st w) := by
  subst hl
  have HH := Lib.hid h
  have hp0 : stAt st = 0 := by have := h.le.1; simpa using this
  have g0 : w.cell? ⟨rb, 0, none⟩ = some (.slice none 0 0) := row_cell hv 0
  have g1 : w.cell? ⟨ra, 0, none⟩ = some (.int .i64 (stAt st : Int)) := row_cell h.ha 0
  have g2 : w.cell? ⟨ro, 0, none⟩ = some (.bool (stOff st)) := row_cell h.ho 0
  have f1 := frozen_of_row w ra 0 _ _ h.ha
  have f2 := frozen_of_row w ro 0 _ _ h.ho
  have HD := Lib.hid (bl_nil w A0)
  have HU := Lib.hid (show firstR [] = (0, 0) from rfl)
  clear hv h
  cases st with
  | error p =>
    simp only [stAt, stOff] at *
    subst hp0
    go_enter Try.func46, Try.ntmps46
    go_wp2_with (go_at_call 47; (with_reducible refine (c_first_as [] _ _ 0 0 HU.out HD.out (by simp)).mono ?_); rintro e w1 ⟨rfl, hk1⟩; have HK1 := Lib.hid hk1; have g1 := hk1.cellv g1; have g2 := hk1.cellv g2; have f1 := frozen_of_row _ _ 0 _ _ (HH.out.keep hk1).ha; have f2 := frozen_of_row _ _ 0 _ _ (HH.out.keep hk1).ho; clear hk1)
    all_goals go_ret
    all_goals exact ⟨rfl, (HH.out.keep HK1.out).off rfl |>.1, HK1.out.ws.trans ((HH.out.keep HK1.out).off rfl).2⟩
  | ok p =>
    simp only [stAt, stOff] at *
    subst hp0
    have HS3 : Hid (numR most [] (.ok 0) = (0, .error 0)) := Lib.hid (by rw [step2]; rfl)
    go_enter Try.func46, Try.ntmps46
    go_wp2_with (go_at_call 47; (with_reducible refine (c_first_as [] _ _ 0 0 HU.out HD.out (by simp)).mono ?_); rintro e w1 ⟨rfl, hk1⟩; have HK1 := Lib.hid hk1; have g1 := hk1.cellv g1; have g2 := hk1.cellv g2; have f1 := frozen_of_row _ _ 0 _ _ (HH.out.keep hk1).ha; have f2 := frozen_of_row _ _ 0 _ _ (HH.out.keep hk1).ho; clear hk1)
    all_goals go_ret
    all_goals exact ⟨by rw [HS3.out]; rfl, by rw [HS3.out]; exact ((HH.out.keep HK1.out).off rfl).1, HK1.out.ws.trans ((HH.out.keep HK1.out).off rfl).2⟩
set_option maxHeartbeats 1600000 in
set_option maxRecDepth 100000 in
theorem number_empty (most n rb ra ro : Nat) (l : List UInt8) (st : St) (w : World) (h : RD w n rb ra ro l st) (ad : Addr) (c : Nat) (hv : w.heap[rb]? = some (.cells #[.slice (some ad) 0 c] 37 (0, 0))) (hl : l = []) (hm : most < 18446744073709551616) :
    Calls Try.prog 46 #[.int .u64 (most : Int), .pointer (some ⟨rb, 0, none⟩), .pointer (some ⟨ra, 0, none⟩), .pointer (some ⟨ro, 0, none⟩)] w (NumP most n rb ra ro l st w) := by
  subst hl
  have HH := Lib.hid h
  have hp0 : stAt st = 0 := by have := h.le.1; simpa using this
  have g0 : w.cell? ⟨rb, 0, none⟩ = some (.slice (some ad) 0 c) := row_cell hv 0
  have g1 : w.cell? ⟨ra, 0, none⟩ = some (.int .i64 (stAt st : Int)) := row_cell h.ha 0
  have g2 : w.cell? ⟨ro, 0, none⟩ = some (.bool (stOff st)) := row_cell h.ho 0
  have f1 := frozen_of_row w ra 0 _ _ h.ha
  have f2 := frozen_of_row w ro 0 _ _ h.ho
  have HD := Lib.hid (fun (a : Addr) (c : Nat) => (bl_none rfl rfl (fun h => by cases h) : BL w A0 [] (.slice (some a) 0 c)))
  have HU := Lib.hid (show firstR [] = (0, 0) from rfl)
  clear hv h
  cases st with
  | error p =>
    simp only [stAt, stOff] at *
    subst hp0
    go_enter Try.func46, Try.ntmps46
    go_wp2_with (go_at_call 47; (with_reducible refine (c_first_as [] _ _ 0 0 HU.out (HD.out _ _) (by simp)).mono ?_); rintro e w1 ⟨rfl, hk1⟩; have HK1 := Lib.hid hk1; have g1 := hk1.cellv g1; have g2 := hk1.cellv g2; have f1 := frozen_of_row _ _ 0 _ _ (HH.out.keep hk1).ha; have f2 := frozen_of_row _ _ 0 _ _ (HH.out.keep hk1).ho; clear hk1)
    all_goals go_ret
    all_goals exact ⟨rfl, (HH.out.keep HK1.out).off rfl |>.1, HK1.out.ws.trans ((HH.out.keep HK1.out).off rfl).2⟩
  | ok p =>
    simp only [stAt, stOff] at *
    subst hp0
    have HS3 : Hid (numR most [] (.ok 0) = (0, .error 0)) := Lib.hid (by rw [step2]; rfl)
    go_enter Try.func46, Try.ntmps46
    go_wp2_with (go_at_call 47; (with_reducible refine (c_first_as [] _ _ 0 0 HU.out (HD.out _ _) (by simp)).mono ?_); rintro e w1 ⟨rfl, hk1⟩; have HK1 := Lib.hid hk1; have g1 := hk1.cellv g1; have g2 := hk1.cellv g2; have f1 := frozen_of_row _ _ 0 _ _ (HH.out.keep hk1).ha; have f2 := frozen_of_row _ _ 0 _ _ (HH.out.keep hk1).ho; clear hk1)
    all_goals go_ret
    all_goals exact ⟨by rw [HS3.out]; rfl, by rw [HS3.out]; exact ((HH.out.keep HK1.out).off rfl).1, HK1.out.ws.trans ((HH.out.keep HK1.out).off rfl).2⟩
theorem c_rd1 (most n rb ra ro : Nat) (l : List UInt8) (st : St) (w : World) (h : RD w n rb ra ro l st) (hm : most < 18446744073709551616) :
    Calls Try.prog 46 #[.int .u64 (most : Int), .pointer (some ⟨rb, 0, none⟩), .pointer (some ⟨ra, 0, none⟩), .pointer (some ⟨ro, 0, none⟩)] w (NumP most n rb ra ro l st w) := by
  obtain ⟨v, h1, h2⟩ := h.hb
  obtain ⟨a, c, C, rfl, hlc, _, _, ht, _⟩ := id h2
  cases a with
  | none =>
    obtain ⟨e1, e2⟩ := ht.1 rfl
    have hl : l = [] := List.eq_nil_of_length_eq_zero e1
    subst hl
    subst e2
    exact number_none most n rb ra ro [] st w h h1 rfl hm
  | some a =>
    by_cases h0 : 0 < l.length
    · obtain ⟨b, o, ha, _⟩ := ht.at h0
      cases ha
      exact number_some most n rb ra ro l st w h b o c h1 h2 hlc hm
    · have hl : l = [] := List.eq_nil_of_length_eq_zero (by omega)
      subst hl
      exact number_empty most n rb ra ro [] st w h a c h1 rfl hm
set_option maxHeartbeats 1600000 in
set_option maxRecDepth 100000 in
theorem c_rd2 (n rb ra ro : Nat) (l : List UInt8) (st : St) (w : World) (h : RD w n rb ra ro l st) :
    Calls Try.prog 48 #[.pointer (some ⟨ro, 0, none⟩)] w fun e w' => e = .returned (.bool (stOff st)) ∧ Kp w w' := by
  have g2 : w.cell? ⟨ro, 0, none⟩ = some (.bool (stOff st)) := row_cell h.ho 0
  go_enter Try.func48, Try.ntmps48
  go_wp2_with fail
  go_ret
  exact ⟨rfl, Kp.refl w⟩
end Go.Proofs.Ytlhiaompcgdmfaa
