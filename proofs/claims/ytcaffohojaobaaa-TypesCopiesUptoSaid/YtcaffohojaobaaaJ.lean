/- Text of package types, and the question that each law asks first. Condition: the type lies in memory. -/
import Derived.Test.YtcaffohojaobaaaI
import Derived.Test.YtcaffohojaobaaaShelf
namespace Go.Proofs.Ytcaffohojaobaaa
open Go.RowKit
set_option linter.unusedVariables false
set_option linter.unusedSimpArgs false

theorem c_write (b lp : Nat) : ∀ (r R : Nat) (T : Ty) (h : Hd) (l : List UInt8) (w : World), EnvT w b lp → Bd w b l → Lies w (Low b) R T h → (look r T).2.2 = true → l.length + LB r ≤ 140737488355328 →
    Calls Try.prog 39 #[h.val, .pointer (some ⟨b, 0, none⟩), .pointer (some ⟨lp, 0, none⟩)] w fun e w' => e = .returned (.tuple #[]) ∧ Bd w' b (l ++ told r T) ∧ Wr b w w' := by
  intro r
  induction r with
  | zero =>
    intro R T h l w hE hB hl hs hn
    rw [look_zero] at hs
    cases hs
  | succ r ih =>
    intro R T h l w hE hB hl hs hn
    cases R with
    | zero => exact hl.elim
    | succ R =>
      obtain ⟨K, t, hh⟩ := hl
      obtain ⟨hf, hk⟩ := look_parts hs
      have hf' : fm h T.fn = true := t.fmT.trans hf
      have hkk := fm_k hf'
      have ek := t.ek
      have hlb : LB (r + 1) = 17 * (LB r + 2) + 70 := rfl
      have kid0 : h.k = 9 ∨ h.k = 10 → ∃ X, T.kids[0]? = some X := fun hc => by
        have := fm_9 hf' hc
        have he := t.es
        exact ⟨_, List.getElem?_eq_getElem (by omega)⟩
      by_cases h8 : h.k = 8
      · rw [told_name (.inl (ek.trans h8)), t.en]
        have := fm_nm hf' (.inl h8)
        exact wr_8 b lp l h w hE hB h8 (by omega)
      by_cases h12 : h.k = 12
      · rw [told_name (.inr (ek.trans h12)), t.en]
        have := fm_nm hf' (.inr h12)
        exact wr_12 b lp l h w hE hB h12 (by omega)
      by_cases h9 : h.k = 9
      · obtain ⟨X, hX⟩ := kid0 (.inl h9)
        rw [told_9 (ek.trans h9) hX]
        exact wr_9 r R b lp l T X h K w hE hB t (hh 0 X hX) (hk 0 X hX) h9 (fm_9 hf' (.inl h9)) (by omega) (fun l W a b' c d => ih R X (K 0) l W a b' c (hk 0 X hX) d)
      by_cases h10 : h.k = 10
      · obtain ⟨X, hX⟩ := kid0 (.inr h10)
        rw [told_10 (ek.trans h10) hX]
        exact wr_10 r R b lp l T X h K w hE hB t (hh 0 X hX) (hk 0 X hX) h10 (fm_9 hf' (.inr h10)) (by omega) (fun l W a b' c d => ih R X (K 0) l W a b' c (hk 0 X hX) d)
      by_cases h11 : h.k = 11
      · rw [told_11 (ek.trans h11)]
        exact wr_11 r R b lp l T h K w hE hB t hh hk h11 (fm_11 hf' h11) hn (fun X hx l W a b' c d e => ih R X hx l W a b' c d e)
      · rw [told_word (by rw [ek]; omega), ek]
        rcases (by omega : h.k = 1 ∨ h.k = 2 ∨ h.k = 3 ∨ h.k = 4 ∨ h.k = 5 ∨ h.k = 6 ∨ h.k = 7) with e | e | e | e | e | e | e
        · exact wr_1 b lp l h w hE hB e (by omega)
        · exact wr_2 b lp l h w hE hB e (by omega)
        · exact wr_3 b lp l h w hE hB e (by omega)
        · exact wr_4 b lp l h w hE hB e (by omega)
        · exact wr_5 b lp l h w hE hB e (by omega)
        · exact wr_6 b lp l h w hE hB e (by omega)
        · exact wr_7 b lp l h w hE hB e (by omega)

/-- The text that is told of a type: none of one that is not sound. -/
noncomputable def tx (T : Ty) : ByteArray := if (look 9 T).2.2 = true then ⟨(told 9 T).toArray⟩ else ⟨#[]⟩
theorem low_of {w : World} {r : Nat} {T : Ty} {h : Hd} (hl : Lies w A0 r T h) {b : Nat} (hb : w.heap.size ≤ b) : Lies w (Low b) r T h :=
  (hl.below (Nat.le_refl _)).weak (show Sel.le (Low b) ⟨A0.fresh, fun k => A0.S k ∧ k < w.heap.size⟩ from ⟨fun x => x, fun k hk => Nat.lt_of_lt_of_le hk.2 hb⟩)
theorem envT_at (w : World) (t1 t2 : TypeId) (h2 : t2 ≠ 5) : EnvT ((w.alloc (.cells #[.pointer none, .slice none 0 0] t1)).alloc (.cells #[.func (.func 39) #[] #[.pointer (some ⟨w.heap.size, 0, none⟩), .pointer (some ⟨w.heap.size + 1, 0, none⟩)]] t2)) w.heap.size (w.heap.size + 1) := by
  have e1 : (w.alloc (.cells #[.pointer none, .slice none 0 0] t1)).heap.size = w.heap.size + 1 := by simp
  have hb := heap_alloc_new (w.alloc (.cells #[.pointer none, .slice none 0 0] t1)) (.cells #[.func (.func 39) #[] #[.pointer (some ⟨w.heap.size, 0, none⟩), .pointer (some ⟨w.heap.size + 1, 0, none⟩)]] t2)
  rw [e1] at hb
  exact ⟨by rw [cell_of_row _ _ _ _ _ _ hb]; rfl, by omega, notB_of hb h2⟩
theorem bd_at (w : World) : Bd (w.alloc (.cells #[.pointer none, .slice none 0 0] 68)) w.heap.size [] :=
  .inl ⟨Nat.le_refl _, .slice none 0 0, heap_alloc_new _ _, World.ownsRow_nil _ _ _ _, by simp [Value.ownBlock]⟩
set_option maxHeartbeats 1600000 in
set_option maxRecDepth 100000 in
theorem c_Text (R : Nat) (T : Ty) (h : Hd) (w : World) (hl : Lies w A0 R T h) :
    Calls Try.prog 16 #[h.val] w fun e w' => e = .returned (.tuple #[.string (tx T), .int .i64 (ef (look 9 T).2.2)]) ∧ Kp w w' := by
  have HL := Lib.hid hl
  clear hl
  cases hs : (look 9 T).2.2 with
  | false =>
    have htx := Lib.hid (show tx T = ⟨#[]⟩ by unfold tx; rw [hs]; rfl)
    go_enter Try.func16, Try.ntmps16
    go_wp2_with (first | (go_at_call 12; refine (c_Check R T h _ (HL.out.keep ((Kp.refl w).alloc _))).mono ?_; rintro e w2 ⟨rfl, hk2⟩; rw [hs, show ef false = 1 from rfl]))
    go_ret2
    exact ⟨by rw [htx.out]; rfl, ((Kp.refl w).alloc _).trans hk2⟩
  | true =>
    have htx := Lib.hid (show tx T = ⟨(told 9 T).toArray⟩ by unfold tx; rw [hs]; rfl)
    have HS := Lib.hid hs
    go_enter Try.func16, Try.ntmps16
    go_wp2_with (first | (go_at_call 12; refine (c_Check R T h _ (HL.out.keep ((Kp.refl w).alloc _))).mono ?_; rintro e w2 ⟨rfl, hk2⟩; rw [hs, show ef true = 0 from rfl]; obtain ⟨p0, p1, p2, p3, p4, p5, ps⟩ := boxed hk2; have pl : w.heap.size < w2.heap.size := ps) | (go_at_call 39; refine (c_write _ _ 9 R T h [] _ (envT_at w2 _ _ (by decide)) ((bd_at w2).keep ((Kp.refl _).alloc _)) ((low_of (HL.out.keep (((Kp.refl w).alloc _).trans hk2)) (Nat.le_refl _)).keep (((Kp.refl w2).alloc _).alloc _)) HS.out (by have := LB_9; simpa using this)).mono ?_; rintro e w3 ⟨rfl, hb3, hw3⟩) | (go_at_call 42; refine (Try.Builder_String_any w2.heap.size w2.heap.size (told 9 T) _ (show Bd w3 w2.heap.size (told 9 T) from hb3) (by have := hw3.sz; simp at this; omega)).mono ?_; rintro e w4 ⟨rfl, hb4⟩))
    go_ret2
    exact ⟨by rw [htx.out]; rfl, (((Kp.refl w).alloc _).trans hk2).trans (Below.trans (((Kp.refl w2).alloc _).alloc _) (Below.trans (hw3.old (Nat.le_refl _) (by simp; omega)) hb4))⟩
/-- A slice of int8, which each law asks for first. -/
def int8T : Ty := .mk 2 ⟨#[]⟩ 0 [] 0 []
def sliceT : Ty := .mk 9 ⟨#[]⟩ 0 [] 1 [int8T]
theorem look_int8 (r : Nat) : look (r + 1) int8T = (0, 1, true) := by
  have hf : fmT int8T = true := by simp [fmT, fm, bareB, hdOf, int8T, Ty.k, Ty.nm, Ty.con, Ty.fn, Ty.nl, Ty.kids]; rfl
  rw [look_succ, if_pos hf]
  rfl
theorem look_slice : (look 9 sliceT).2.2 = true := by
  have hf : fmT sliceT = true := by simp [fmT, fm, bareB, hdOf, sliceT, Ty.k, Ty.nm, Ty.con, Ty.fn, Ty.nl, Ty.kids]; rfl
  rw [look_succ, if_pos hf]
  have e : lookAll (look 8) sliceT.kids 0 0 = some (1, 1) := by
    show lookAll (look 8) [int8T] 0 0 = _
    rw [lookAll, look_int8, lookAll]
    rfl
  rw [e]
  rfl
theorem tx_slice : tx sliceT = ⟨#[91, 93, 105, 110, 116, 56]⟩ := by
  unfold tx
  rw [if_pos look_slice]
  rfl
theorem slice_lies (w : World) : Lies (w.alloc (.cells #[.int .i64 2, .string ⟨#[]⟩, .int .i64 0, .slice none 0 0, .slice none 0 0, .slice none 0 0] 25)) A0 2 sliceT ⟨9, ⟨#[]⟩, 0, none, 0, 0, some ⟨w.heap.size, 0, none⟩, 1, 1, none, 0, 0⟩ := by
  have hb := heap_alloc_new w (.cells #[.int .i64 2, .string ⟨#[]⟩, .int .i64 0, .slice none 0 0, .slice none 0 0, .slice none 0 0] 25)
  have leaf : ∀ W : World, Lies W A0 1 int8T ⟨2, ⟨#[]⟩, 0, none, 0, 0, none, 0, 0, none, 0, 0⟩ := fun W =>
    ⟨fun _ => ⟨2, ⟨#[]⟩, 0, none, 0, 0, none, 0, 0, none, 0, 0⟩, ⟨rfl, rfl, rfl, rfl, rfl, rfl, (by simp), (by simp), (by simp [ByteArray.size]), fun n hn => (by cases hn), (by simp), (by simp), (by simp), tab_nil _ _ _ _ _, tab_nil _ _ _ _ _, tab_nil _ _ _ _ _⟩, fun i X hX => by simp [int8T, Ty.kids] at hX⟩
  refine ⟨fun _ => ⟨2, ⟨#[]⟩, 0, none, 0, 0, none, 0, 0, none, 0, 0⟩, ⟨rfl, rfl, rfl, rfl, rfl, rfl, (by simp), (by simp), (by simp [ByteArray.size]), fun n hn => (by cases hn), (by simp), (by simp), (by simp), tab_nil _ _ _ _ _, ?_, tab_nil _ _ _ _ _⟩, fun i X hX => ?_⟩
  · refine ⟨fun h => (by cases h), fun _ => ⟨w.heap.size, 0, rfl, trivial, by simp, fun h => h.elim, fun i hi j v hv => ?_⟩⟩
    have hi0 : i = 0 := by simp only at hi; omega
    subst hi0
    simp only [Nat.zero_mul, Nat.zero_add]
    rw [cell_of_row _ _ _ _ _ _ hb]
    simpa [Hd.cells] using hv
  · have e : X = int8T := by
      cases i with
      | zero => simpa [sliceT, Ty.kids] using hX.symm
      | succ i => simp [sliceT, Ty.kids] at hX
    subst e
    exact leaf _
theorem c_answers (w : World) : Calls Try.prog 18 #[] w fun e w' => e = .returned (.bool true) ∧ Kp w w' := by
  have hx := Lib.hid tx_slice
  have hy := Lib.hid (show ef (look 9 sliceT).2.2 = 0 by rw [look_slice]; rfl)
  go_enter Try.func18, Try.ntmps18
  go_wp2_with (first | (go_at_call 16; refine (c_Text 2 sliceT ⟨9, ⟨#[]⟩, 0, none, 0, 0, some ⟨w.heap.size, 0, none⟩, 1, 1, none, 0, 0⟩ _ (slice_lies w)).mono ?_; rintro e w2 ⟨rfl, hk2⟩; rw [hx.out, hy.out]))
  go_ret
  exact ⟨by first | rfl | (simp; done), ((Kp.refl w).alloc _).trans hk2⟩
end Go.Proofs.Ytcaffohojaobaaa
