/- The walk of ScanBlanks. -/
import Derived.Test.YtjpmgloofcgfnaaDoorC2
import Derived.Test.YtjpmgloofcgfnaaDoorC3
namespace Go.Proofs.YtjpmgloofcgfnaaDoor
open Go.RowKit
set_option linter.unusedVariables false
set_option linter.unusedSimpArgs false

/-- Blanks ahead of a text. -/
def blk : Nat → ByteArray → ByteArray
  | 0, s => s
  | k + 1, s => ⟨#[32]⟩ ++ blk k s
theorem blk_list (k : Nat) (s : ByteArray) : (blk k s).data.toList = List.replicate k 32 ++ s.data.toList := by
  induction k with
  | zero => rfl
  | succ k ih => rw [blk, List.replicate_succ, List.cons_append, ← ih]; simp
theorem blk_size (k : Nat) (s : ByteArray) : (blk k s).size = k + s.size := by
  have := congrArg List.length (blk_list k s)
  simpa using this
theorem blk_ext (k : Nat) (s : ByteArray) : (blk k s).extract k (blk k s).size = s := by
  have h := rest_list (blk k s) k
  rw [blk_list, List.drop_left' (by simp)] at h
  exact ByteArray.ext (Array.toList_inj.1 h)
theorem blk_dec (k : Nat) (s : ByteArray) (j : Nat) (h : j < k) : Utf8.decode (blk k s) j = (32, 1) := by
  have hp : j < (blk k s).size := by rw [blk_size]; omega
  have hb : (blk k s)[j]'hp = 32 := by
    have h2 : (blk k s).data.toList[j]? = some 32 := by rw [blk_list, List.getElem?_append_left (by simpa using h)]; simp [h]
    rw [Array.getElem?_toList] at h2
    exact (Array.getElem?_eq_some_iff.1 h2).2
  have := decode_ascii (blk k s) j hp (by rw [hb]; decide)
  rw [this, hb]
  rfl
theorem blk_toks (k : Nat) (s : ByteArray) (h : (blk k s).size ≤ 65536) : toksV (blk k s) = shT k (toksV s) := by
  have := toks_blank (blk k s) k (by rw [blk_size]; omega) h (blk_dec k s)
  rwa [blk_ext] at this
theorem scan_pos {s : ByteArray} : ∀ {b pos : Nat} {done : Int} {L : List Tk} {x : Int × Int}, scanFrom s b pos done L = .error x → 0 ≤ x.1 ∧ x.1 ≤ s.size
  | 0, pos, done, L, x, h => by
    rw [scanFrom] at h
    split at h
    · cases h
    · cases h; simp
  | b + 1, pos, done, L, x, h => by
    rw [scanFrom] at h
    split at h
    · rename_i hp
      split at h
      · exact scan_pos h
      · split at h
        · exact scan_pos h
        · rename_i e he
          cases h
          constructor <;> simp <;> omega
    · split at h
      · cases h
      · cases h; simp
theorem brk_pos {s : ByteArray} : ∀ {b pos p : Nat}, brkFrom s b pos = some p → p ≤ s.size
  | 0, pos, p, h => by cases h
  | b + 1, pos, p, h => by
    rw [brkFrom] at h
    split at h
    · rename_i hp
      split at h
      · cases h; omega
      · exact brk_pos h
    · cases h
theorem toks_pos {s : ByteArray} {x : Int × Int} (h : toksV s = .error x) : 0 ≤ x.1 ∧ x.1 ≤ s.size := by
  unfold toksV at h
  split at h
  · cases h; simp
  · split at h
    · rename_i p hp
      cases h
      have := brk_pos hp
      constructor <;> simp <;> omega
    · exact scan_pos h
/-- Each token stands in the text. -/
def PosOK (s : ByteArray) (L : List Tk) : Prop := ∀ t, t ∈ L → 0 ≤ t.pos ∧ t.pos ≤ s.size
theorem PosOK.push {s : ByteArray} {L : List Tk} (h : PosOK s L) {t : Tk} (ht : 0 ≤ t.pos ∧ t.pos ≤ s.size) : PosOK s (L ++ [t]) := by
  intro u hu
  rcases List.mem_append.1 hu with hu | hu
  · exact h u hu
  · rw [List.mem_singleton.1 hu]; exact ht
theorem PosOK.endV {s : ByteArray} {L L' : List Tk} {pos : Int} (h : PosOK s L) (hp : 0 ≤ pos ∧ pos ≤ s.size) (he : endV L pos = some L') : PosOK s L' := by
  unfold Go.Proofs.YtjpmgloofcgfnaaDoor.endV at he
  split at he
  · cases he; exact h
  · split at he
    · split at he
      · cases he
      · cases he; exact h.push hp
    · cases he; exact h
theorem PosOK.read {s : ByteArray} {done d : Int} {L L' : List Tk} {pos : Nat} {c : Int} (h : PosOK s L) (hp : pos < s.size) (hr : readV s done L pos c = .ok (d, L')) : PosOK s L' := by
  have h0 : (0 : Int) ≤ (pos : Int) ∧ (pos : Int) ≤ (s.size : Int) := by omega
  unfold readV at hr
  split at hr
  · split at hr
    · rename_i L2 he
      cases hr; exact h.endV h0 he
    · cases hr
  · split at hr
    · cases hr; exact h
    · split at hr
      · cases hr; exact h
      · split at hr
        · cases hr
        · split at hr
          · cases hr
          · cases hr
            exact h.push h0
theorem PosOK.scan {s : ByteArray} : ∀ {b pos : Nat} {done : Int} {L L' : List Tk}, PosOK s L → scanFrom s b pos done L = .ok L' → PosOK s L'
  | 0, pos, done, L, L', h, hr => by
    rw [scanFrom] at hr
    split at hr
    · rename_i L2 he
      cases hr; exact h.endV (by omega) he
    · cases hr
  | b + 1, pos, done, L, L', h, hr => by
    rw [scanFrom] at hr
    split at hr
    · rename_i hp
      split at hr
      · exact h.scan hr
      · split at hr
        · rename_i d L2 he
          exact (h.read hp he).scan hr
        · cases hr
    · split at hr
      · rename_i L2 he
        cases hr; exact h.endV (by omega) he
      · cases hr
theorem toks_in {s : ByteArray} {L : List Tk} (h : toksV s = .ok L) : PosOK s L := by
  unfold toksV at h
  split at h
  · cases h
  · split at h
    · cases h
    · exact PosOK.scan (fun t ht => by simp at ht) h
end Go.Proofs.YtjpmgloofcgfnaaDoor
