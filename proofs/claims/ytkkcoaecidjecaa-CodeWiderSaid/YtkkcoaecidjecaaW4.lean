/- Encode. Condition: the module lies in memory, and is of less than 100000000000 numbers. -/
import Derived.Test.YtkkcoaecidjecaaW3
namespace Go.Proofs.Ytkkcoaecidjecaa
open Go.RowKit
set_option linter.unusedVariables false
set_option linter.unusedSimpArgs false
/-- Bytes as they lie. -/
def LB : Ly UInt8 := fun _ _ x cs => cs = [.int .u8 (x.toNat : Int)]
theorem goodB : Good 1 LB := by
  refine ⟨fun {w B x cs} h => ?_, fun h _ _ _ => h, fun h _ => h, fun h _ => h⟩
  obtain rfl := h
  exact ⟨rfl, by intro u hu; simp at hu; subst hu; rfl⟩
abbrev BL := RL 5 1 1 LB
theorem flat_bys (l : List UInt8) : flat (fun i => [Value.int .u8 ((l.getD i 0).toNat : Int)]) l.length = bys l := by
  have : ∀ n, n ≤ l.length → flat (fun i => [Value.int .u8 ((l.getD i 0).toNat : Int)]) n = bys (l.take n) := by
    intro n
    induction n with
    | zero => intro _; rfl
    | succ n ih =>
      intro hn
      rw [flat, ih (by omega), List.take_add_one]
      rw [bys_add, List.getElem?_eq_getElem (show n < l.length by omega)]
      simp [bys, List.getD_eq_getElem?_getD, List.getElem?_eq_getElem (show n < l.length by omega)]
  rw [this _ (Nat.le_refl _), List.take_length]
theorem bl_of_owns {w : World} {B : Nat} {v : Value} {l : List UInt8} (h : w.ownsRow B 5 1 v l.length (bys l)) (hl : l.length ≤ 140737488351232) : BL w (From B) l v := by
  rw [← flat_bys] at h
  obtain ⟨ad, c, rfl, hle, ht, _⟩ := tab_of_owns h (fun _ => rfl)
  exact ⟨ad, c, _, rfl, hle, by omega, fun i => ⟨rfl, by intro u hu; simp at hu; subst hu; rfl⟩, ht, fun i x hx => by
    show _ = _
    rw [List.getD_eq_getElem?_getD, hx]; rfl⟩
theorem bl_nil (w : World) (B : Sel) : BL w B [] (.slice none 0 0) :=
  ⟨none, 0, fun _ => [.int .u8 0], rfl, Nat.le_refl _, by simp, fun i => ⟨rfl, by intro u hu; simp at hu; subst hu; rfl⟩, tab_nil _ _ _ _ _, fun i x hx => by simp at hx⟩
/-- What Encode answers. -/
def encR (m : Mo) : List UInt8 × Int :=
  if (puts ([], false) (itMo m)).2 = true then ([], 1) else if 1048576 < (puts ([], false) (itMo m)).1.length then ([], 6) else ((puts ([], false) (itMo m)).1, 0)
def EncP (m : Mo) (w : World) (e : Ending) (w' : World) : Prop := ∃ v, e = .returned (.tuple #[v, .int .i64 (encR m).2]) ∧ BL w' (From w.heap.size) (encR m).1 v ∧ Kp w w'
theorem zeroW (w : World) (c : List Value) : True := trivial
set_option maxHeartbeats 1000000 in
set_option maxRecDepth 100000 in
theorem c_Encode (m : Mo) (v1 v2 : Value) (w : World) (hl : LM w A0 m [v1, v2]) (hb : (itMo m).length ≤ 100000000000) :
    Calls Try.prog 26 #[.agg #[v1, v2]] w (EncP m w) := by
  obtain ⟨_, _, he, h1, h2⟩ := hl
  simp only [List.cons.injEq, and_true] at he
  obtain ⟨rfl, rfl⟩ := he
  have k2 := ((Kp.refl w).alloc (.cells #[v1, v2] 25)).alloc (.cells #[.slice none 0 0, .int .i64 0, .bool false] 92)
  have hr := row_keep ((Kp.refl _).alloc (.cells #[.slice none 0 0, .int .i64 0, .bool false] 92)) (heap_alloc_new w (.cells #[v1, v2] 25))
  obtain ⟨c0, c1⟩ := row2 hr
  have H1 := Lib.hid (((h1.below goodS (Nat.le_refl _)).weak goodS (und_of (n := w.heap.size) (fun b hb => hb.2))).keep goodS k2)
  have H2 := Lib.hid (((h2.below goodF (Nat.le_refl _)).weak goodF (und_of (n := w.heap.size) (fun b hb => hb.2))).keep goodF k2)
  have HW : Hid (WR ((w.alloc (.cells #[v1, v2] 25)).alloc (.cells #[.slice none 0 0, .int .i64 0, .bool false] 92)) (w.heap.size + 1) (w.heap.size + 2) ([], false)) :=
    Lib.hid ⟨by omega, by simp, .slice none 0 0, by simpa using heap_alloc_new (w.alloc (.cells #[v1, v2] 25)) (.cells #[.slice none 0 0, .int .i64 0, .bool false] 92), by simpa [bys] using World.ownsRow_nil _ _ _ _⟩
  have HK := Lib.hid k2
  have HB := Lib.hid hb
  clear h1 h2 k2 hr hb
  go_enter Try.func26, Try.ntmps26
  go_wp2_with (go_at_call 43; (with_reducible refine (c_module (w.heap.size + 1) (w.heap.size + 2) w.heap.size ([], false) m v1 v2 _ HW.out (by omega) H1.out H2.out (by have := HB.out; simp; omega)).mono ?_); rintro e w1 ⟨rfl, o1, ho1, hl1, h1, h2⟩; have G1 := Lib.hid h1; have G2 := Lib.hid h2; clear h1 h2 hl1; obtain ⟨_, hBs, vb, hrow, hown⟩ := G1.out; obtain ⟨d0, d1, d2⟩ := row3 hrow; clear hrow; have GO := Lib.hid hown; have GB := Lib.hid hBs; clear hown hBs)
  · rename_i hq
    have HE : encR m = ([], 1) := by rw [encR, ← ho1.out, if_pos hq]
    go_ret2
    exact ⟨.slice none 0 0, by simp only [HE]; rfl, by simp only [HE]; exact bl_nil _ _, HW.out.old G2.out HK.out (by omega)⟩
  · rename_i hq hr
    have hq' : ¬ o1.2 = true := by simpa using hq
    have hr' : 1048576 < o1.1.length := by omega
    have HE : encR m = ([], 6) := by rw [encR, ← ho1.out, if_neg hq', if_pos hr']
    go_ret2
    exact ⟨.slice none 0 0, by simp only [HE]; rfl, by simp only [HE]; exact bl_nil _ _, HW.out.old G2.out HK.out (by omega)⟩
  · rename_i hq hr
    have hq' : ¬ o1.2 = true := by simpa using hq
    have hr' : ¬ 1048576 < o1.1.length := by omega
    have HE : encR m = (o1.1, 0) := by rw [encR, ← ho1.out, if_neg hq', if_neg hr']
    go_ret2
    refine ⟨vb, by simp only [HE]; rfl, ?_, HW.out.old G2.out HK.out (by omega)⟩
    simp only [HE]
    have hown := GO.out
    rw [take_le (by omega)] at hown
    exact (bl_of_owns hown (by omega)).weak goodB (From_le (by omega))
end Go.Proofs.Ytkkcoaecidjecaa
