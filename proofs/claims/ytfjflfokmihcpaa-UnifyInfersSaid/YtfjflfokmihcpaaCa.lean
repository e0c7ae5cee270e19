/- What it is to write over rows of fresh blocks with what holds nothing: what lies there still reads as types. No program in sight. -/
import Derived.Test.YtfjflfokmihcpaaT0
import Derived.Laws.Tables
namespace Go.Proofs.Ytfjflfokmihcpaa
open Go.RowKit
set_option linter.unusedVariables false
set_option linter.unusedSimpArgs false

/-- The cells o, o + 1, .. of a block. -/
def rowIs (cur : Array Value) (o : Nat) (cs : List Value) : Prop := ∀ j v, cs[j]? = some v → cur[o + j]? = some v
/-- A header that holds nothing. -/
def lf (h : Hd) : Prop := h.fl = 0 ∧ h.ll = 0 ∧ h.rl = 0
/-- n elements of m cells each, from the head of a block of P on, each of them good. -/
def rowOK (w : World) (P : Nat → Prop) (e : TypeId) (a : Option Addr) (n m : Nat) (good : List Value → Prop) : Prop :=
  n * 104 ≤ 140737488351232 ∧ (0 < n → ∃ b cur, a = some ⟨b, 0, none⟩ ∧ P b ∧ w.heap[b]? = some (.cells cur e (0, 0)) ∧ n * m ≤ cur.size ∧ ∀ i, i < n → ∃ cs, rowIs cur (i * m) cs ∧ good cs)
/-- A type lies in blocks of P, whatever stands in it; less than r deep. -/
def WL (w : World) (P : Nat → Prop) : Nat → Hd → Prop
  | 0, _ => False
  | r + 1, h => rowOK w P 52 h.fa h.fl 7 (fun cs => ∃ nm hd, cs = .string nm :: Hd.cells hd ∧ WL w P r hd) ∧ rowOK w P 42 h.la h.ll 6 (fun cs => ∃ hd, cs = Hd.cells hd ∧ WL w P r hd) ∧ rowOK w P 42 h.ra h.rl 6 (fun cs => ∃ hd, cs = Hd.cells hd ∧ WL w P r hd)
theorem WL.leaf {w : World} {P : Nat → Prop} {r : Nat} {h : Hd} (hl : lf h) : WL w P (r + 1) h :=
  ⟨⟨by rw [hl.1]; omega, fun hp => absurd hp (by rw [hl.1]; omega)⟩, ⟨by rw [hl.2.1]; omega, fun hp => absurd hp (by rw [hl.2.1]; omega)⟩, ⟨by rw [hl.2.2]; omega, fun hp => absurd hp (by rw [hl.2.2]; omega)⟩⟩
/-- Rows of blocks of P are written over with what holds nothing; all else stays as it was. -/
structure Sp (P : Nat → Prop) (w w' : World) : Prop where
  os : w'.os = w.os
  tape : w'.tape = w.tape
  output : w'.output = w.output
  sz : w.heap.size ≤ w'.heap.size
  same : ∀ b, b < w.heap.size → ¬ P b → w'.heap[b]? = w.heap[b]?
  rows : ∀ b cur e, P b → w.heap[b]? = some (.cells cur e (0, 0)) → ∃ cur', w'.heap[b]? = some (.cells cur' e (0, 0)) ∧ cur'.size = cur.size ∧
    (e = 42 → ∀ i, (i + 1) * 6 ≤ cur.size → (∀ j, j < 6 → cur'[i * 6 + j]? = cur[i * 6 + j]?) ∨ ∃ hd, lf hd ∧ rowIs cur' (i * 6) (Hd.cells hd)) ∧
    (e = 52 → ∀ i, (i + 1) * 7 ≤ cur.size → (∀ j, j < 7 → cur'[i * 7 + j]? = cur[i * 7 + j]?) ∨ ∃ nm hd, lf hd ∧ rowIs cur' (i * 7) (.string nm :: Hd.cells hd))
theorem Sp.refl (P : Nat → Prop) (w : World) : Sp P w w := ⟨rfl, rfl, rfl, Nat.le_refl _, fun _ _ _ => rfl, fun b cur e _ h => ⟨cur, h, rfl, fun _ _ _ => .inl fun _ _ => rfl, fun _ _ _ => .inl fun _ _ => rfl⟩⟩
theorem Sp.trans {P : Nat → Prop} {a b c : World} (h : Sp P a b) (k : Sp P b c) : Sp P a c where
  os := k.os.trans h.os
  tape := k.tape.trans h.tape
  output := k.output.trans h.output
  sz := Nat.le_trans h.sz k.sz
  same x hx hp := (k.same x (Nat.lt_of_lt_of_le hx h.sz) hp).trans (h.same x hx hp)
  rows x cur e hp hc := by
    obtain ⟨cur1, h1, h2, h3, h4⟩ := h.rows x cur e hp hc
    obtain ⟨cur2, k1, k2, k3, k4⟩ := k.rows x cur1 e hp h1
    refine ⟨cur2, k1, k2.trans h2, fun he i hi => ?_, fun he i hi => ?_⟩
    · rcases k3 he i (by rw [h2]; exact hi) with q | q
      · rcases h3 he i hi with p | ⟨hd, p1, p2⟩
        · exact .inl fun j hj => (q j hj).trans (p j hj)
        · refine .inr ⟨hd, p1, fun j v hv => ?_⟩
          have hj : j < 6 := (List.getElem?_eq_some_iff.1 hv).1
          rw [q j hj]; exact p2 j v hv
      · exact .inr q
    · rcases k4 he i (by rw [h2]; exact hi) with q | q
      · rcases h4 he i hi with p | ⟨nm, hd, p1, p2⟩
        · exact .inl fun j hj => (q j hj).trans (p j hj)
        · refine .inr ⟨nm, hd, p1, fun j v hv => ?_⟩
          have hj : j < 7 := (List.getElem?_eq_some_iff.1 hv).1
          rw [q j hj]; exact p2 j v hv
      · exact .inr q
/-- What only adds blocks. -/
theorem Sp.of_kp {P : Nat → Prop} {w w' : World} (h : Kp w w') : Sp P w w' :=
  ⟨h.os, h.tape, h.output, h.sz, fun b hb _ => h.blk hb, fun b cur e _ hc => ⟨cur, (h.blk (Array.getElem?_eq_some_iff.1 hc).1).trans hc, rfl, fun _ _ _ => .inl fun _ _ => rfl, fun _ _ _ => .inl fun _ _ => rfl⟩⟩
theorem Sp.fr {P : Nat → Prop} {w w' : World} (h : Sp P w w') : Fr P w w' := fun b hb hp => h.same b hb hp
theorem WL.sp {P : Nat → Prop} {w w' : World} (hs : Sp P w w') : ∀ {r : Nat} {h : Hd}, WL w P r h → WL w' P r h
  | 0, _, h => h
  | r + 1, h, ⟨h1, h2, h3⟩ => by
    have ty : ∀ (a : Option Addr) (n : Nat), rowOK w P 42 a n 6 (fun cs => ∃ hd, cs = Hd.cells hd ∧ WL w P r hd) → rowOK w' P 42 a n 6 (fun cs => ∃ hd, cs = Hd.cells hd ∧ WL w' P r hd) := by
      intro a n hr
      refine ⟨hr.1, fun hn => ?_⟩
      obtain ⟨b, cur, ha, hp, hc, hsz, hg⟩ := hr.2 hn
      obtain ⟨cur', hc', hsz', ht, _⟩ := hs.rows b cur _ hp hc
      refine ⟨b, cur', ha, hp, hc', by omega, fun i hi => ?_⟩
      obtain ⟨cs, hrow, hd, rfl, hw⟩ := hg i hi
      have hi6 : (i + 1) * 6 ≤ cur.size := Nat.le_trans (Nat.mul_le_mul_right 6 hi) hsz
      rcases ht rfl i hi6 with q | ⟨hd', p1, p2⟩
      · refine ⟨_, fun j v hv => ?_, hd, rfl, WL.sp hs hw⟩
        have hj : j < 6 := (List.getElem?_eq_some_iff.1 hv).1
        rw [q j hj]; exact hrow j v hv
      · cases r with
        | zero => exact hw.elim
        | succ r => exact ⟨_, p2, hd', rfl, WL.leaf p1⟩
    refine ⟨⟨h1.1, fun hn => ?_⟩, ty _ _ h2, ty _ _ h3⟩
    obtain ⟨b, cur, ha, hp, hc, hsz, hg⟩ := h1.2 hn
    obtain ⟨cur', hc', hsz', _, hf⟩ := hs.rows b cur _ hp hc
    refine ⟨b, cur', ha, hp, hc', by omega, fun i hi => ?_⟩
    obtain ⟨cs, hrow, nm, hd, rfl, hw⟩ := hg i hi
    have hi7 : (i + 1) * 7 ≤ cur.size := Nat.le_trans (Nat.mul_le_mul_right 7 hi) hsz
    rcases hf rfl i hi7 with q | ⟨nm', hd', p1, p2⟩
    · refine ⟨_, fun j v hv => ?_, nm, hd, rfl, WL.sp hs hw⟩
      have hj : j < 7 := (List.getElem?_eq_some_iff.1 hv).1
      rw [q j hj]; exact hrow j v hv
    · cases r with
      | zero => exact hw.elim
      | succ r => exact ⟨_, p2, nm', hd', rfl, WL.leaf p1⟩
/-- A type that lies in fresh blocks lies there, whatever stands in it. -/
theorem Lies.wl {w : World} {B : Sel} {P : Nat → Prop} (hf : B.fresh) (hB : ∀ b, b < w.heap.size → B.S b → P b) : ∀ {r : Nat} {T : Ty} {h : Hd}, Lies w B r T h → WL w P r h
  | 0, _, _, h => h
  | r + 1, T, h, ⟨K, t, hh⟩ => by
    have cell : ∀ {b : Nat} {cur : Array Value} {e : TypeId} {o : Nat} {v : Value}, w.heap[b]? = some (.cells cur e (0, 0)) → w.cell? ⟨b, o, none⟩ = some v → cur[o]? = some v := by
      intro b cur e o v hc hv
      rw [cell_of_row w b o cur e (0, 0) hc] at hv
      exact hv
    have last : ∀ {b : Nat} {cur : Array Value} {e : TypeId} {n m : Nat} {C : Nat → List Value}, 0 < n → 0 < m → w.heap[b]? = some (.cells cur e (0, 0)) → (∀ i, i < n → w.rangeAt b (0 + i * m) (C i)) → (∀ i, (C i).length = m) → n * m ≤ cur.size := by
      intro b cur e n m C hn hm hc hr hl
      have h1 := hr (n - 1) (by omega) (m - 1) ((C (n - 1))[m - 1]'(by rw [hl]; omega)) (List.getElem?_eq_getElem _)
      have h2 := (Array.getElem?_eq_some_iff.1 (cell hc h1)).1
      have h3 : (n - 1) * m + m = n * m := by
        obtain ⟨k, rfl⟩ : ∃ k, n = k + 1 := ⟨n - 1, by omega⟩
        rw [Nat.add_sub_cancel, Nat.add_mul]; omega
      omega
    refine ⟨⟨by have := t.bf; omega, fun hn => ?_⟩, ⟨by have := t.bl; omega, fun hn => ?_⟩, ⟨by have := t.br; omega, fun hn => ?_⟩⟩
    · obtain ⟨b, o, ha, hS, hlt, hfr, hr⟩ := t.tf.2 hn
      obtain ⟨rfl, cur, hc⟩ := hfr hf
      refine ⟨b, cur, ha, hB b hlt hS, hc, last hn (by omega) hc hr (fun i => rfl), fun i hi => ⟨_, fun j v hv => ?_, T.fn.getD i ByteArray.empty, K i, rfl, ?_⟩⟩
      · have := hr i hi j v hv
        rw [Nat.zero_add] at this
        exact cell hc this
      · have hk : i < T.kids.length := by have := t.es; omega
        exact Lies.wl hf hB (hh i _ (List.getElem?_eq_getElem hk))
    · obtain ⟨b, o, ha, hS, hlt, hfr, hr⟩ := t.tl.2 hn
      obtain ⟨rfl, cur, hc⟩ := hfr hf
      refine ⟨b, cur, ha, hB b hlt hS, hc, last hn (by omega) hc hr (fun i => rfl), fun i hi => ⟨_, fun j v hv => ?_, K (h.fl + i), rfl, ?_⟩⟩
      · have := hr i hi j v hv
        rw [Nat.zero_add] at this
        exact cell hc this
      · have hk : h.fl + i < T.kids.length := by have := t.es; omega
        exact Lies.wl hf hB (hh _ _ (List.getElem?_eq_getElem hk))
    · obtain ⟨b, o, ha, hS, hlt, hfr, hr⟩ := t.tr.2 hn
      obtain ⟨rfl, cur, hc⟩ := hfr hf
      refine ⟨b, cur, ha, hB b hlt hS, hc, last hn (by omega) hc hr (fun i => rfl), fun i hi => ⟨_, fun j v hv => ?_, K (h.fl + h.ll + i), rfl, ?_⟩⟩
      · have := hr i hi j v hv
        rw [Nat.zero_add] at this
        exact cell hc this
      · have hk : h.fl + h.ll + i < T.kids.length := by have := t.es; omega
        exact Lies.wl hf hB (hh _ _ (List.getElem?_eq_getElem hk))
end Go.Proofs.Ytfjflfokmihcpaa
