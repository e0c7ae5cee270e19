/- Tokens; what ends a statement; the letters and digits that a text begins with; names and words as tokens. No condition. -/
import Derived.Test.YtjpmgloofcgfnaaDoorA8
import Derived.WalkSpells
namespace Go.Proofs.YtjpmgloofcgfnaaDoor
open Go.RowKit
set_option linter.unusedVariables false
set_option linter.unusedSimpArgs false

/-- A token. -/
structure Tk where
  k : Int
  text : ByteArray
  n : Int
  pos : Int
abbrev Tk.cells (t : Tk) : List Value := [.int .i64 t.k, .string t.text, .int .u64 t.n, .int .i64 t.pos]
abbrev Tk.val (t : Tk) : Value := .agg #[.int .i64 t.k, .string t.text, .int .u64 t.n, .int .i64 t.pos]
theorem boxT {w W : World} {t : Tk} {e : TypeId} (hk : Kp (w.alloc (.cells #[.int .i64 t.k, .string t.text, .int .u64 t.n, .int .i64 t.pos] e)) W) :
    W.cell? ⟨w.heap.size, 0, none⟩ = some (.int .i64 t.k) ∧ W.cell? ⟨w.heap.size, 1, none⟩ = some (.string t.text) ∧ W.cell? ⟨w.heap.size, 2, none⟩ = some (.int .u64 t.n) ∧ W.cell? ⟨w.heap.size, 3, none⟩ = some (.int .i64 t.pos) ∧ w.heap.size < W.heap.size := by
  have hsz := hk.sz
  simp at hsz
  refine ⟨?_, ?_, ?_, ?_, by omega⟩ <;> exact hk.cellv (by rw [cell_of_row _ w.heap.size _ _ e (0, 0) (heap_alloc_new _ _)]; rfl)
def end3L : List ByteArray := [⟨#[98, 114, 101, 97, 107]⟩, ⟨#[99, 111, 110, 116, 105, 110, 117, 101]⟩, ⟨#[114, 101, 116, 117, 114, 110]⟩, ⟨#[116, 114, 117, 101]⟩, ⟨#[102, 97, 108, 115, 101]⟩]
def end4L : List ByteArray := [⟨#[41]⟩, ⟨#[93]⟩, ⟨#[125]⟩]
/-- Does a statement end behind the token, at a line's end? -/
noncomputable def endsB (t : Tk) : Bool := decide (t.k = 1 ∨ t.k = 2) || (decide (t.k = 3) && inB end3L t.text) || (decide (t.k = 4) && inB end4L t.text)
set_option maxHeartbeats 3200000 in
set_option maxRecDepth 100000 in
theorem ends_3 (text : ByteArray) (n pos : Int) (w : World) :
    Calls Tryd.prog 40 #[(⟨3, text, n, pos⟩ : Tk).val] w fun e w' => e = .returned (.bool (inB end3L text)) ∧ Kp w w' := by
  by_cases hm : text ∈ end3L
  · rw [show inB end3L text = true from inB_yes hm]
    simp only [end3L, List.mem_cons, List.not_mem_nil, or_false] at hm
    rcases hm with rfl | rfl | rfl | rfl | rfl <;> (go_enter Tryd.func40, Tryd.ntmps40; go_wp2; go_ret; exact ⟨rfl, (Kp.refl w).alloc _⟩)
  · rw [show inB end3L text = false from inB_no hm]
    simp only [end3L, List.mem_cons, List.not_mem_nil, or_false, not_or] at hm
    obtain ⟨n0, n1, n2, n3, n4⟩ := hm
    have e0 : (text.toList == [98, 114, 101, 97, 107]) = false := ne_list n0
    have e1 : (text.toList == [99, 111, 110, 116, 105, 110, 117, 101]) = false := ne_list n1
    have e2 : (text.toList == [114, 101, 116, 117, 114, 110]) = false := ne_list n2
    have e3 : (text.toList == [116, 114, 117, 101]) = false := ne_list n3
    have e4 : (text.toList == [102, 97, 108, 115, 101]) = false := ne_list n4
    clear n0 n1 n2 n3 n4
    go_enter Tryd.func40, Tryd.ntmps40
    go_wp2
    go_ret
    exact ⟨rfl, (Kp.refl w).alloc _⟩
set_option maxHeartbeats 3200000 in
set_option maxRecDepth 100000 in
theorem ends_4 (text : ByteArray) (n pos : Int) (w : World) :
    Calls Tryd.prog 40 #[(⟨4, text, n, pos⟩ : Tk).val] w fun e w' => e = .returned (.bool (inB end4L text)) ∧ Kp w w' := by
  by_cases hm : text ∈ end4L
  · rw [show inB end4L text = true from inB_yes hm]
    simp only [end4L, List.mem_cons, List.not_mem_nil, or_false] at hm
    rcases hm with rfl | rfl | rfl <;> (go_enter Tryd.func40, Tryd.ntmps40; go_wp2; go_ret; exact ⟨rfl, (Kp.refl w).alloc _⟩)
  · rw [show inB end4L text = false from inB_no hm]
    simp only [end4L, List.mem_cons, List.not_mem_nil, or_false, not_or] at hm
    obtain ⟨n0, n1, n2⟩ := hm
    have e0 : (text.toList == [41]) = false := ne_list n0
    have e1 : (text.toList == [93]) = false := ne_list n1
    have e2 : (text.toList == [125]) = false := ne_list n2
    clear n0 n1 n2
    go_enter Tryd.func40, Tryd.ntmps40
    go_wp2
    go_ret
    exact ⟨rfl, (Kp.refl w).alloc _⟩
theorem c_ends (t : Tk) (w : World) : Calls Tryd.prog 40 #[t.val] w fun e w' => e = .returned (.bool (endsB t)) ∧ Kp w w' := by
  obtain ⟨k, text, n, pos⟩ := t
  by_cases h1 : k = 1
  · subst h1
    rw [show endsB ⟨1, text, n, pos⟩ = true by simp [endsB]]
    go_enter Tryd.func40, Tryd.ntmps40; go_wp2; go_ret; exact ⟨rfl, (Kp.refl w).alloc _⟩
  by_cases h2 : k = 2
  · subst h2
    rw [show endsB ⟨2, text, n, pos⟩ = true by simp [endsB]]
    go_enter Tryd.func40, Tryd.ntmps40; go_wp2; go_ret; exact ⟨rfl, (Kp.refl w).alloc _⟩
  by_cases h3 : k = 3
  · subst h3
    rw [show endsB ⟨3, text, n, pos⟩ = inB end3L text by simp [endsB]]
    exact ends_3 text n pos w
  by_cases h4 : k = 4
  · subst h4
    rw [show endsB ⟨4, text, n, pos⟩ = inB end4L text by simp [endsB]]
    exact ends_4 text n pos w
  rw [show endsB ⟨k, text, n, pos⟩ = false by simp [endsB, h1, h2, h3, h4]]
  have q1 : (k == 1) = false := beq_eq_false_iff_ne.2 h1
  have q2 : (k == 2) = false := beq_eq_false_iff_ne.2 h2
  have q3 : (k == 3) = false := beq_eq_false_iff_ne.2 h3
  have q4 : (k == 4) = false := beq_eq_false_iff_ne.2 h4
  clear h1 h2 h3 h4
  go_enter Tryd.func40, Tryd.ntmps40; go_wp2; go_ret; exact ⟨rfl, (Kp.refl w).alloc _⟩

/-- A letter or a digit. -/
def wordC (c : Int) : Bool := lt c || decide (48 ≤ c ∧ c ≤ 57)
/-- Where the letters and digits end that stand from a place on; b: so many at most are to come. -/
def spanAt (s : ByteArray) : Nat → Nat → Nat
  | 0, pos => s.size
  | b + 1, pos => if pos < s.size then (if wordC (Utf8.decode s pos).1 = true then spanAt s b (pos + (Utf8.decode s pos).2) else pos) else s.size
def spanE (s : ByteArray) : Nat := spanAt s s.size 0
theorem span_step {s : ByteArray} {b pos v : Nat} {c : Int} (hp : pos < s.size) (hb : s.size ≤ pos + b) (hc : spanAt s b pos = v) (hcc : c = (Utf8.decode s pos).1) (ho : wordC c = true) :
    ∃ b', spanAt s b' (pos + (Utf8.decode s pos).2) = v ∧ s.size ≤ pos + (Utf8.decode s pos).2 + b' := by
  have := width_pos s pos hp
  cases b with
  | zero => omega
  | succ b =>
    refine ⟨b, ?_, by omega⟩
    subst hcc
    rwa [spanAt, if_pos hp, if_pos ho] at hc
theorem span_stop {s : ByteArray} {b pos v : Nat} {c : Int} (hp : pos < s.size) (hb : s.size ≤ pos + b) (hc : spanAt s b pos = v) (hcc : c = (Utf8.decode s pos).1) (ho : wordC c = false) : v = pos := by
  cases b with
  | zero => omega
  | succ b =>
    subst hcc
    rw [spanAt, if_pos hp, if_neg (by rw [ho]; decide)] at hc
    exact hc.symm
theorem span_end {s : ByteArray} {b pos v : Nat} (hp : ¬ pos < s.size) (hc : spanAt s b pos = v) : v = s.size := by
  cases b with
  | zero => exact hc.symm
  | succ b => rw [spanAt, if_neg hp] at hc; exact hc.symm
theorem ext_all (s : ByteArray) : s.extract 0 s.size = s := by
  apply ByteArray.ext
  simp [ByteArray.data_extract]
theorem wordC_cases (c : Int) : (wordC c = true ∧ (lt c = true ∨ (lt c = false ∧ decide (48 ≤ c ∧ c ≤ 57) = true))) ∨ (wordC c = false ∧ lt c = false ∧ decide (48 ≤ c ∧ c ≤ 57) = false) := by
  unfold wordC
  cases lt c <;> cases decide (48 ≤ c ∧ c ≤ 57) <;> simp
set_option maxHeartbeats 1600000 in
theorem c_span (s : ByteArray) (w : World) (hs : s.size ≤ 140737488351232) : Calls Tryd.prog 51 #[.string s] w fun e w' => e = .returned (.string (s.extract 0 (spanE s))) ∧ Kp w w' := by
  unfold spanE
  generalize hv : spanAt s s.size 0 = v
  have HV := Lib.hid hv
  clear hv
  go_enter Tryd.func51, Tryd.ntmps51
  go_wp2_with fail
  go_loopw [3, 4] (fun _ _ w' => ∃ (pos b : Nat), w' = w.iter s pos ∧ Hid (spanAt s b pos = v) ∧ s.size ≤ pos + b) (fun _ _ w' => s.size - w'.iterPos w.heap.size)
  case atStart => exact ⟨0, s.size, rfl, HV, by omega⟩
  case round =>
    obtain ⟨pos, b, rfl, HC, hb⟩ := hrel
    by_cases hp : pos < s.size
    · have hwd := width_pos s pos hp
      obtain ⟨c, hcc⟩ : ∃ c : Int, c = (Utf8.decode s pos).1 := ⟨_, rfl⟩
      have hnx : ∀ ty, (Instr.next (.pointer (some ⟨w.heap.size, 0, none⟩)) true ty).run Tryd.prog (w.iter s pos) = .ok (.tuple #[.bool true, .int .i64 pos, .int .i32 c]) (w.iter s (pos + (Utf8.decode s pos).2)) := fun ty => by
        rw [hcc]; exact run_next_any w s pos ty hp
      have HCC := Lib.hid hcc
      clear hcc
      rcases wordC_cases c with ⟨ho, h | ⟨h, hd⟩⟩ | ⟨ho, h, hd⟩
      · have HO := Lib.hid ho
        have HLT := Lib.hid h
        clear ho h
        go_wp2_with (first | (go_at_call 46; (with_reducible refine (c_isLetter _ _).mono ?_); rintro e w' ⟨rfl, rfl⟩; rw [HLT.out]) | (go_at_call 28; (with_reducible refine (c_isDigit _ _).mono ?_); rintro e w' ⟨rfl, rfl⟩; rw [HDG.out]))
        go_roundw
        case rel => obtain ⟨b', a1, a2⟩ := span_step hp hb HC.out HCC.out HO.out; exact ⟨_, b', rfl, Lib.hid a1, a2⟩
        case measure => simp; omega
      · have HO := Lib.hid ho
        have HLT := Lib.hid h
        have HDG := Lib.hid hd
        clear ho h hd
        go_wp2_with (first | (go_at_call 46; (with_reducible refine (c_isLetter _ _).mono ?_); rintro e w' ⟨rfl, rfl⟩; rw [HLT.out]) | (go_at_call 28; (with_reducible refine (c_isDigit _ _).mono ?_); rintro e w' ⟨rfl, rfl⟩; rw [HDG.out]))
        go_roundw
        case rel => obtain ⟨b', a1, a2⟩ := span_step hp hb HC.out HCC.out HO.out; exact ⟨_, b', rfl, Lib.hid a1, a2⟩
        case measure => simp; omega
      · have HO := Lib.hid ho
        have HLT := Lib.hid h
        have HDG := Lib.hid hd
        have HVV := Lib.hid (span_stop hp hb HC.out HCC.out ho)
        clear ho h hd
        go_wp2_with (first | (go_at_call 46; (with_reducible refine (c_isLetter _ _).mono ?_); rintro e w' ⟨rfl, rfl⟩; rw [HLT.out]) | (go_at_call 28; (with_reducible refine (c_isDigit _ _).mono ?_); rintro e w' ⟨rfl, rfl⟩; rw [HDG.out]))
        go_ret
        exact ⟨by rw [HVV.out]; rfl, (Kp.refl w).iter _ _⟩
    · have hnx : ∀ ty, (Instr.next (.pointer (some ⟨w.heap.size, 0, none⟩)) true ty).run Tryd.prog (w.iter s pos) = _ := fun ty => run_next_end w s pos ty hp
      have HVV := Lib.hid (span_end hp HC.out)
      go_wp2_with fail
      go_ret
      exact ⟨by rw [HVV.out, ext_all]; rfl, (Kp.refl w).iter _ _⟩
end Go.Proofs.YtjpmgloofcgfnaaDoor
