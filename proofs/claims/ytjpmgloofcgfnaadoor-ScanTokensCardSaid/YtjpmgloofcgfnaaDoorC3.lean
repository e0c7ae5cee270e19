/- A text's tokens where another text stands ahead: the same, further on. No program in sight but the plain function of Tokens. -/
import Derived.Test.YtjpmgloofcgfnaaDoorC1
namespace Go.Proofs.YtjpmgloofcgfnaaDoor
open Go.RowKit
set_option linter.unusedVariables false
set_option linter.unusedSimpArgs false

/-- The token k further on. -/
def sh (k : Nat) (t : Tk) : Tk := { t with pos := t.pos + k }
theorem ends_sh (k : Nat) (t : Tk) : endsB (sh k t) = endsB t := rfl
theorem endV_sh (k : Nat) (L : List Tk) (p q : Int) (h : q = p + k) : endV (L.map (sh k)) q = (endV L p).map (List.map (sh k)) := by
  subst h
  unfold endV
  rw [List.getLast?_map]
  cases L.getLast? with
  | none => rfl
  | some t =>
    simp only [Option.map_some, ends_sh, List.length_map]
    split
    · split
      · rfl
      · simp [semiT, sh]
    · rfl
theorem drop_more (s : ByteArray) (k pos : Nat) : (s.extract k s.size).data.toList.drop pos = s.data.toList.drop (k + pos) := by
  rw [rest_list, List.drop_drop]
theorem ext_more (s : ByteArray) (k pos : Nat) : (s.extract k s.size).extract pos (s.extract k s.size).size = s.extract (k + pos) s.size := by
  have h1 := rest_list (s.extract k s.size) pos
  rw [drop_more, ← rest_list s (k + pos)] at h1
  exact ByteArray.ext (Array.toList_inj.1 h1)
theorem size_more (s : ByteArray) (k : Nat) : (s.extract k s.size).size = s.size - k := by
  simp [ByteArray.size_extract]
/-- What is read, further on. -/
def shR (k : Nat) : Except Int (Int × List Tk) → Except Int (Int × List Tk)
  | .ok (d, L) => .ok (d + k, L.map (sh k))
  | .error e => .error e
theorem readV_sh (s : ByteArray) (k : Nat) (done : Int) (L : List Tk) (pos : Nat) (c : Int) :
    readV s (done + k) (L.map (sh k)) (k + pos) c = shR k (readV (s.extract k s.size) done L pos c) := by
  unfold readV
  rw [drop_more, ext_more, endV_sh k L (pos : Int) _ (by omega), List.length_map]
  split
  · cases endV L (pos : Int) <;> rfl
  · split
    · rfl
    · split
      · simp only [shR, Except.ok.injEq, Prod.mk.injEq, and_true]; omega
      · split
        · rfl
        · split
          · rfl
          · simp only [shR, Except.ok.injEq, Prod.mk.injEq, List.map_append, List.map_cons, List.map_nil]
            refine ⟨by omega, ?_⟩
            congr 1
            simp only [sh, List.cons.injEq, Tk.mk.injEq, and_true, true_and]
            omega
/-- The answer, further on. -/
def shT (k : Nat) : Except (Int × Int) (List Tk) → Except (Int × Int) (List Tk)
  | .ok L => .ok (L.map (sh k))
  | .error x => .error (x.1 + k, x.2)
theorem end_sh (s : ByteArray) (k : Nat) (hk : k ≤ s.size) (L : List Tk) :
    (match endV (L.map (sh k)) s.size with | some L' => (.ok L' : Except (Int × Int) (List Tk)) | none => .error (s.size, 6)) = shT k (match endV L (s.extract k s.size).size with | some L' => .ok L' | none => .error ((s.extract k s.size).size, 6)) := by
  have h : (s.size : Int) = ((s.extract k s.size).size : Int) + k := by rw [size_more]; omega
  rw [endV_sh k L ((s.extract k s.size).size : Int) _ h]
  cases endV L ((s.extract k s.size).size : Int) with
  | none => simp only [Option.map_none, shT, h]
  | some L' => rfl
theorem scan_sh (s : ByteArray) (k : Nat) (hk : k ≤ s.size) : ∀ (b pos : Nat) (done : Int) (L : List Tk),
    scanFrom s b (k + pos) (done + k) (L.map (sh k)) = shT k (scanFrom (s.extract k s.size) b pos done L)
  | 0, pos, done, L => by
    rw [scanFrom, scanFrom]
    exact end_sh s k hk L
  | b + 1, pos, done, L => by
    rw [scanFrom, scanFrom, Lib.tail_decode, size_more]
    by_cases hp : k + pos < s.size
    · have hp2 : pos < s.size - k := by omega
      rw [if_pos hp, if_pos hp2]
      by_cases hd : (pos : Int) < done
      · have hd2 : ((k + pos : Nat) : Int) < done + k := by omega
        rw [if_pos hd2, if_pos hd, Nat.add_assoc]
        exact scan_sh s k hk b _ done L
      · have hd2 : ¬ ((k + pos : Nat) : Int) < done + k := by omega
        rw [if_neg hd2, if_neg hd, readV_sh]
        cases readV (s.extract k s.size) done L pos ((Utf8.decode s (k + pos)).1 : Int) with
        | ok x =>
          obtain ⟨d, L'⟩ := x
          simp only [shR]
          rw [Nat.add_assoc]
          exact scan_sh s k hk b _ d L'
        | error e => simp only [shR, shT, Except.error.injEq, Prod.mk.injEq, and_true]; omega
    · have hp2 : ¬ pos < s.size - k := by omega
      rw [if_neg hp, if_neg hp2, ← size_more]
      exact end_sh s k hk L
theorem readV_done (s : ByteArray) (d1 d2 : Int) (L : List Tk) (pos : Nat) (c : Int) :
    (∃ L', readV s d1 L pos c = .ok (d1, L') ∧ readV s d2 L pos c = .ok (d2, L')) ∨ readV s d1 L pos c = readV s d2 L pos c := by
  unfold readV
  by_cases h1 : c = 10
  · rw [if_pos h1, if_pos h1]
    cases endV L (pos : Int) with
    | none => exact .inr rfl
    | some L' => exact .inl ⟨L', rfl, rfl⟩
  · rw [if_neg h1, if_neg h1]
    by_cases h2 : c = 9 ∨ c = 13 ∨ c = 32
    · rw [if_pos h2, if_pos h2]; exact .inl ⟨L, rfl, rfl⟩
    · rw [if_neg h2, if_neg h2]; exact .inr rfl
/-- What was done is all one where it lies behind. -/
theorem done_any (s : ByteArray) : ∀ (b pos : Nat) (d1 d2 : Int) (L : List Tk), d1 ≤ pos → d2 ≤ pos → scanFrom s b pos d1 L = scanFrom s b pos d2 L
  | 0, pos, d1, d2, L, h1, h2 => by rw [scanFrom, scanFrom]
  | b + 1, pos, d1, d2, L, h1, h2 => by
    rw [scanFrom, scanFrom]
    by_cases hp : pos < s.size
    · have g1 : ¬ (pos : Int) < d1 := by omega
      have g2 : ¬ (pos : Int) < d2 := by omega
      rw [if_pos hp, if_pos hp, if_neg g1, if_neg g2]
      rcases readV_done s d1 d2 L pos ((Utf8.decode s pos).1 : Int) with ⟨L', e1, e2⟩ | e
      · rw [e1, e2]
        exact done_any s b _ d1 d2 L' (by omega) (by omega)
      · rw [e]
    · rw [if_neg hp, if_neg hp]
theorem scan_blank (s : ByteArray) (k : Nat) (hk : k ≤ s.size) (hb : ∀ j, j < k → Utf8.decode s j = (32, 1)) : ∀ (i n j : Nat) (L : List Tk), j + i = k → scanFrom s (n + i) j 0 L = scanFrom s n k 0 L
  | 0, n, j, L, h => by rw [show j = k by omega]; rfl
  | i + 1, n, j, L, h => by
    have hp : j < s.size := by omega
    have hd : ¬ (j : Int) < 0 := by omega
    rw [show n + (i + 1) = (n + i) + 1 by omega, scanFrom, if_pos hp, if_neg hd, hb j (by omega)]
    rw [show readV s 0 L j ((32 : Nat) : Int) = .ok (0, L) by unfold readV; rw [if_neg (by decide), if_pos (by decide)]]
    exact scan_blank s k hk hb i n (j + 1) L (by omega)
theorem brk_sh (s : ByteArray) (k : Nat) (hk : k ≤ s.size) : ∀ (b pos : Nat), brkFrom s b (k + pos) = (brkFrom (s.extract k s.size) b pos).map (· + k)
  | 0, pos => rfl
  | b + 1, pos => by
    rw [brkFrom, brkFrom, Lib.tail_decode, size_more, drop_more]
    by_cases hp : k + pos < s.size
    · have hp2 : pos < s.size - k := by omega
      rw [if_pos hp, if_pos hp2]
      split
      · simp [Nat.add_comm]
      · rw [Nat.add_assoc]
        exact brk_sh s k hk b _
    · have hp2 : ¬ pos < s.size - k := by omega
      rw [if_neg hp, if_neg hp2]
      rfl
theorem brk_blank (s : ByteArray) (k : Nat) (hk : k ≤ s.size) (hb : ∀ j, j < k → Utf8.decode s j = (32, 1)) : ∀ (i n j : Nat), j + i = k → brkFrom s (n + i) j = brkFrom s n k
  | 0, n, j, h => by rw [show j = k by omega]; rfl
  | i + 1, n, j, h => by
    have hp : j < s.size := by omega
    rw [show n + (i + 1) = (n + i) + 1 by omega, brkFrom, if_pos hp, hb j (by omega), if_neg (by simp)]
    exact brk_blank s k hk hb i n (j + 1) (by omega)
/-- Behind k blanks: the same tokens, k further on. -/
theorem toks_blank (s : ByteArray) (k : Nat) (hk : k ≤ s.size) (hs : s.size ≤ 65536) (hb : ∀ j, j < k → Utf8.decode s j = (32, 1)) : toksV s = shT k (toksV (s.extract k s.size)) := by
  have e0 : s.size = (s.size - k) + k := by omega
  have h1 : badV s = (badV (s.extract k s.size)).map (· + k) := by
    unfold badV
    rw [size_more]
    have := brk_blank s k hk hb k (s.size - k) 0 (by omega)
    rw [← e0] at this
    rw [this]
    exact brk_sh s k hk (s.size - k) 0
  have h2 : scanFrom s s.size 0 0 [] = shT k (scanFrom (s.extract k s.size) (s.extract k s.size).size 0 0 []) := by
    have := scan_blank s k hk hb k (s.size - k) 0 [] (by omega)
    rw [← e0] at this
    rw [this, done_any s (s.size - k) k 0 (0 + k) [] (by omega) (by omega), size_more]
    exact scan_sh s k hk (s.size - k) 0 0 []
  unfold toksV
  have g1 : ¬ 65536 < s.size := by omega
  have g2 : ¬ 65536 < (s.extract k s.size).size := by rw [size_more]; omega
  rw [if_neg g1, if_neg g2, h1, h2]
  cases badV (s.extract k s.size) with
  | none => rfl
  | some p => simp [shT]
end Go.Proofs.YtjpmgloofcgfnaaDoor
