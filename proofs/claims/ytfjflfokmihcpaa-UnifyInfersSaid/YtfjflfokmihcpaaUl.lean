/- answers and owns of the law. No condition. -/
import Derived.Test.YtfjflfokmihcpaaUk
import Derived.Test.YtfjflfokmihcpaaFj
namespace Go.Proofs.Ytfjflfokmihcpaa
open Go.RowKit
set_option linter.unusedVariables false
set_option linter.unusedSimpArgs false
def int8T : Ty := .mk 2 ⟨#[]⟩ 0 [] 0 []
/-- The parameter T of any type. -/
def parT : Ty := .mk 12 ⟨#[84]⟩ 1 [] 0 []
theorem look_int8 (r : Nat) : look (r + 1) int8T = (0, 1, true) := by
  have hf : fmT int8T = true := by simp [fmT, fm, bareB, hdOf, int8T, Ty.k, Ty.nm, Ty.con, Ty.fn, Ty.nl, Ty.kids]; rfl
  rw [look_succ, if_pos hf]
  rfl
theorem nm_T : nmB ⟨#[84]⟩ = true := by
  have h : Utf8.decode ⟨#[84]⟩ 0 = (84, 1) := by
    rw [decode_ascii ⟨#[84]⟩ 0 (by decide) (by decide)]
    rfl
  unfold nmB
  show (decide _ && okFrom ⟨#[84]⟩ 1 0) = true
  rw [okFrom, h]
  rfl
theorem look_par (r : Nat) : (look (r + 1) parT).2.2 = true := by
  have hf : fmT parT = true := by
    have h := nm_T
    simp [fmT, fm, bareB, hdOf, parT, Ty.k, Ty.nm, Ty.con, Ty.fn, Ty.nl, Ty.kids, h]
  rw [look_succ, if_pos hf]
  rfl
def hdP : Hd := ⟨12, ⟨#[84]⟩, 1, none, 0, 0, none, 0, 0, none, 0, 0⟩
def hd8 : Hd := ⟨2, ⟨#[]⟩, 0, none, 0, 0, none, 0, 0, none, 0, 0⟩
theorem lies_int8 (W : World) : Lies W A0 1 int8T ⟨2, ⟨#[]⟩, 0, none, 0, 0, none, 0, 0, none, 0, 0⟩ :=
  ⟨fun _ => ⟨2, ⟨#[]⟩, 0, none, 0, 0, none, 0, 0, none, 0, 0⟩, ⟨rfl, rfl, rfl, rfl, rfl, rfl, (by simp), (by simp), (by simp [ByteArray.size]), fun n hn => (by cases hn), (by simp), (by simp), (by simp), tab_nil _ _ _ _ _, tab_nil _ _ _ _ _, tab_nil _ _ _ _ _⟩, fun i X hX => by simp [int8T, Ty.kids] at hX⟩
theorem lies_par (W : World) : Lies W A0 1 parT ⟨12, ⟨#[84]⟩, 1, none, 0, 0, none, 0, 0, none, 0, 0⟩ :=
  ⟨fun _ => ⟨2, ⟨#[]⟩, 0, none, 0, 0, none, 0, 0, none, 0, 0⟩, ⟨rfl, rfl, rfl, rfl, rfl, rfl, (by simp), (by simp), (by simp [ByteArray.size]), fun n hn => (by cases hn), (by simp), (by simp), (by simp), tab_nil _ _ _ _ _, tab_nil _ _ _ _ _, tab_nil _ _ _ _ _⟩, fun i X hX => by simp [parT, Ty.kids] at hX⟩
/-- One type in a row that was just made. -/
theorem one_lies {w W : World} {r : Nat} {T : Ty} {h : Hd} (hb : W.heap[w.heap.size]? = some (.cells #[.int .i64 h.k, .string h.nm, .int .i64 h.con, .slice h.fa h.fl h.fc, .slice h.la h.ll h.lc, .slice h.ra h.rl h.rc] 42 (0, 0))) (hl : Lies W A0 r T h) : LiesAll W A0 r [T] (some ⟨w.heap.size, 0, none⟩) 1 (fun _ => h) := by
  refine ⟨⟨fun h => (by cases h), fun _ => ⟨w.heap.size, 0, rfl, trivial, (Array.getElem?_eq_some_iff.1 hb).1, fun h => h.elim, fun i hi j v hv => ?_⟩⟩, fun i X hX => ?_⟩
  · have hi0 : i = 0 := by simp only [List.length_singleton] at hi; omega
    subst hi0
    simp only [Nat.zero_mul, Nat.zero_add]
    rw [cell_of_row _ _ _ _ _ _ hb]
    simpa [Hd.cells] using hv
  · cases i with
    | zero => simp at hX; subst hX; exact hl
    | succ i => simp at hX
theorem ans_all : (allS [parT] && allS [int8T]) = true := by
  have h1 : allS [parT] = true := allS_yes (fun j X hX => by
    cases j with
    | zero => simp at hX; subst hX; exact look_par 8
    | succ j => simp at hX)
  have h2 : allS [int8T] = true := allS_yes (fun j X hX => by
    cases j with
    | zero => simp at hX; subst hX; rw [look_int8 8]
    | succ j => simp at hX)
  rw [h1, h2]
  rfl
theorem ans_found : found [⟨#[84]⟩] [parT] [int8T] = some (sput σ0 ⟨#[84]⟩ int8T) := by
  unfold found
  rw [walkK, mtch_new (L := [⟨#[84]⟩]) (A := parT) ⟨rfl, by simp [parT, Ty.nm]⟩ rfl]
  rfl
theorem ans_ok : uE [⟨#[84]⟩] [parT] [int8T] = 0 := uE_ok ans_all ⟨by simp, rfl⟩ ans_found
theorem ans_res : uRes [⟨#[84]⟩] [parT] [int8T] = [int8T] := by
  rw [uRes_ok ans_ok, uArgs_at ans_found]
  simp [sput]
theorem one_name {w W : World} {s : ByteArray} (hb : W.heap[w.heap.size]? = some (.cells #[.string s] 9 (0, 0))) : tab W A0 9 (some ⟨w.heap.size, 0, none⟩) 1 1 1 (fun i => [.string ([s].getD i ByteArray.empty)]) := by
  refine ⟨fun h => (by cases h), fun _ => ⟨w.heap.size, 0, rfl, trivial, (Array.getElem?_eq_some_iff.1 hb).1, fun h => h.elim, fun i hi j v hv => ?_⟩⟩
  have hi0 : i = 0 := by omega
  subst hi0
  rw [cell_of_row _ _ _ _ _ _ hb]
  simpa using hv
set_option maxHeartbeats 3200000 in
set_option maxRecDepth 100000 in
theorem c_answers (w : World) : Calls Try.prog 12 #[] w fun e w' => e = .returned (.bool true) ∧ Kp w w' := by
  have C0 : Hid (∀ W, Kp (((w.alloc (.cells #[.string ⟨#[84]⟩] 9)).alloc (.cells #[.int .i64 12, .string ⟨#[84]⟩, .int .i64 1, .slice none 0 0, .slice none 0 0, .slice none 0 0] 42)).alloc (.cells #[.int .i64 2, .string ⟨#[]⟩, .int .i64 0, .slice none 0 0, .slice none 0 0, .slice none 0 0] 42)) W → Calls Try.prog 9 #[.slice (some ⟨w.heap.size, 0, none⟩) 1 1, .slice (some ⟨w.heap.size + 1, 0, none⟩) 1 1, .slice (some ⟨w.heap.size + 1 + 1, 0, none⟩) 1 1] W fun e w' => ∃ b o c kb ko kc, e = .returned (.tuple #[.slice (some ⟨b, o, none⟩) 1 c, .slice (some ⟨kb, ko, none⟩) 1 kc, .int .i64 0]) ∧ Kp W w' ∧ w'.cell? ⟨b, o, none⟩ = some (.int .i64 2) ∧ w'.cell? ⟨kb, ko, none⟩ = some (.bool true)) := Lib.hid (fun W hk => by
    have b0 := (hk.blk (b := w.heap.size) (by simp <;> omega)).trans (((((Kp.refl (w.alloc (.cells #[.string ⟨#[84]⟩] 9))).alloc (.cells #[.int .i64 12, .string ⟨#[84]⟩, .int .i64 1, .slice none 0 0, .slice none 0 0, .slice none 0 0] 42)).alloc (.cells #[.int .i64 2, .string ⟨#[]⟩, .int .i64 0, .slice none 0 0, .slice none 0 0, .slice none 0 0] 42)).blk (b := w.heap.size) (by simp)).trans (heap_alloc_new w (.cells #[.string ⟨#[84]⟩] 9)))
    have b1 := (hk.blk (b := w.heap.size + 1) (by simp)).trans (((Kp.refl ((w.alloc (.cells #[.string ⟨#[84]⟩] 9)).alloc (.cells #[.int .i64 12, .string ⟨#[84]⟩, .int .i64 1, .slice none 0 0, .slice none 0 0, .slice none 0 0] 42))).alloc (.cells #[.int .i64 2, .string ⟨#[]⟩, .int .i64 0, .slice none 0 0, .slice none 0 0, .slice none 0 0] 42)).blk (b := w.heap.size + 1) (by simp) |>.trans (heap_at (w := w.alloc (.cells #[.string ⟨#[84]⟩] 9)) (by simp)))
    have b2 := (hk.blk (b := w.heap.size + 1 + 1) (by simp)).trans (heap_at (w := (w.alloc (.cells #[.string ⟨#[84]⟩] 9)).alloc (.cells #[.int .i64 12, .string ⟨#[84]⟩, .int .i64 1, .slice none 0 0, .slice none 0 0, .slice none 0 0] 42)) (by simp))
    have lp := one_lies (w := w.alloc (.cells #[.string ⟨#[84]⟩] 9)) (W := W) (h := ⟨12, ⟨#[84]⟩, 1, none, 0, 0, none, 0, 0, none, 0, 0⟩) (by simpa using b1) (lies_par W)
    have l8 := one_lies (w := (w.alloc (.cells #[.string ⟨#[84]⟩] 9)).alloc (.cells #[.int .i64 12, .string ⟨#[84]⟩, .int .i64 1, .slice none 0 0, .slice none 0 0, .slice none 0 0] 42)) (W := W) (h := ⟨2, ⟨#[]⟩, 0, none, 0, 0, none, 0, 0, none, 0, 0⟩) (by simpa using b2) (lies_int8 W)
    simp only [World.size_alloc] at lp l8
    refine (c_Unify [⟨#[84]⟩] (some ⟨w.heap.size, 0, none⟩) 1 A0 1 1 [parT] [int8T] _ 1 _ 1 _ _ W (one_name b0) (fun s hs => by simp at hs; subst hs; decide) (by decide) lp (by decide) l8 (by decide) (fun _ => by decide)).mono ?_
    rintro e w' ⟨ad, c, K, kd, kc, rfl, hk2, hl, ht⟩
    rw [ans_ok, ans_res]
    rw [ans_res] at hl ht
    obtain ⟨b, o, rfl, hr⟩ := hl.1.at (by decide)
    obtain ⟨kb', ko, rfl, hr2⟩ := ht.at (by decide)
    refine ⟨b, o, c, kb', ko, kc, rfl, hk2, ?_, ?_⟩
    · have h0 := hr 0 (by decide) 0 _ rfl
      have h1 := lies_k (hl.2 0 int8T rfl)
      rw [h1, show int8T.k = 2 from rfl] at h0
      simpa using h0
    · have h0 := hr2 0 (by decide) 0 _ rfl
      simp only [show kb [int8T] 0 = true from rfl] at h0
      simpa using h0)
  go_enter Try.func12, Try.ntmps12
  go_wp2_with (first | (go_at_call 9; refine (C0.out _ (Kp.refl _)).mono ?_; rintro e w2 ⟨b, o, c, kb', ko, kc, rfl, hk2, h1, h2⟩))
  go_ret
  exact ⟨rfl, (((Kp.refl w).alloc _).alloc _).alloc _ |>.trans hk2⟩
end Go.Proofs.Ytfjflfokmihcpaa
