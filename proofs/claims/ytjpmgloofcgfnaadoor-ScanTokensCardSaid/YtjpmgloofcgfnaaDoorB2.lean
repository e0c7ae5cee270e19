/- A name or a word as a token; the longest sign that a text begins with. Condition: the signs lie in their variable. -/
import Derived.Test.YtjpmgloofcgfnaaDoorB1
import Derived.Laws.Rows
namespace Go.Proofs.YtjpmgloofcgfnaaDoor
open Go.RowKit
set_option linter.unusedVariables false
set_option linter.unusedSimpArgs false

def noTk : Tk := ⟨0, ⟨#[]⟩, 0, 0⟩
/-- What letters and digits are that begin with a letter. -/
noncomputable def namedV (s : ByteArray) : Tk × Int := if inB wordsL s = true then (⟨3, s, 0, 0⟩, 0) else if 64 < s.size then (noTk, 6) else (⟨1, s, 0, 0⟩, 0)
def tkE (x : Tk × Int) : Value := .tuple #[x.1.val, .int .i64 x.2]
theorem c_named (s : ByteArray) (w : World) (hs : s.size ≤ 140737488351232) : Calls Tryd.prog 50 #[.string s] w fun e w' => e = .returned (tkE (namedV s)) ∧ Kp w w' := by
  cases hw : inB wordsL s with
  | true =>
    rw [show namedV s = (⟨3, s, 0, 0⟩, 0) by unfold namedV; rw [if_pos hw]]
    have HW := Lib.hid hw
    clear hw
    go_enter Tryd.func50, Tryd.ntmps50
    go_wp2_with (first | (go_at_call 18; (with_reducible refine (c_Word s _).mono ?_); rintro e w' ⟨rfl, rfl⟩; rw [HW.out]))
    refine bodyPost_ret (v := tkE (⟨3, s, 0, 0⟩, 0)) (by simp [results, Tryd.results50, go_sem, tkE]) rfl ⟨rfl, ?_⟩
    repeat (first | exact (Kp.refl w).alloc _ | refine Kp.setCell ?_ (by simp) _)
  | false =>
    have HW := Lib.hid hw
    by_cases h64 : 64 < s.size
    · rw [show namedV s = (noTk, 6) by unfold namedV; rw [if_neg (by rw [hw]; decide), if_pos h64]]
      have d0 : (64 : Int) < s.size := by omega
      clear hw h64
      go_enter Tryd.func50, Tryd.ntmps50
      go_wp2_with (first | (go_at_call 18; (with_reducible refine (c_Word s _).mono ?_); rintro e w' ⟨rfl, rfl⟩; rw [HW.out]))
      refine bodyPost_ret (v := tkE (noTk, 6)) (by simp [results, Tryd.results50, go_sem, tkE, noTk]) rfl ⟨rfl, ?_⟩
      repeat (first | exact (Kp.refl w).alloc _ | refine Kp.setCell ?_ (by simp) _)
    · rw [show namedV s = (⟨1, s, 0, 0⟩, 0) by unfold namedV; rw [if_neg (by rw [hw]; decide), if_neg h64]]
      have d0 : (s.size : Int) ≤ 64 := by omega
      clear hw h64
      go_enter Tryd.func50, Tryd.ntmps50
      go_wp2_with (first | (go_at_call 18; (with_reducible refine (c_Word s _).mono ?_); rintro e w' ⟨rfl, rfl⟩; rw [HW.out]))
      refine bodyPost_ret (v := tkE (⟨1, s, 0, 0⟩, 0)) (by simp [results, Tryd.results50, go_sem, tkE]) rfl ⟨rfl, ?_⟩
      repeat (first | exact (Kp.refl w).alloc _ | refine Kp.setCell ?_ (by simp) _)
/-- The signs: those of two characters ahead. -/
def signsL : List ByteArray := [⟨#[60, 60]⟩, ⟨#[62, 62]⟩, ⟨#[38, 94]⟩, ⟨#[38, 38]⟩, ⟨#[124, 124]⟩, ⟨#[61, 61]⟩, ⟨#[33, 61]⟩, ⟨#[60, 61]⟩, ⟨#[62, 61]⟩, ⟨#[58, 61]⟩, ⟨#[60, 45]⟩, ⟨#[43]⟩, ⟨#[45]⟩, ⟨#[42]⟩, ⟨#[47]⟩, ⟨#[37]⟩, ⟨#[38]⟩, ⟨#[124]⟩, ⟨#[94]⟩, ⟨#[33]⟩, ⟨#[60]⟩, ⟨#[62]⟩, ⟨#[61]⟩, ⟨#[40]⟩, ⟨#[41]⟩, ⟨#[91]⟩, ⟨#[93]⟩, ⟨#[123]⟩, ⟨#[125]⟩, ⟨#[44]⟩, ⟨#[46]⟩, ⟨#[58]⟩, ⟨#[59]⟩]
/-- The longest sign that a text begins with. -/
def signV (l : List UInt8) : ByteArray := (signsL.find? (fun g => Lib.hasPrefix l g.data.toList)).getD ⟨#[]⟩
def SignsAt (w : World) : Prop := ∃ t fr, w.heap[0]? = some (.cells (signsL.map Value.string).toArray t fr)
theorem SignsAt.keep {w w' : World} (h : SignsAt w) (hk : Kp w w') : SignsAt w' := by
  obtain ⟨t, fr, e⟩ := h
  exact ⟨t, fr, (hk.blk (Array.getElem?_eq_some_iff.1 e).1).trans e⟩
theorem sign_0 (w : World) : (Instr.index 79 (.agg (signsL.map Value.string).toArray) (.int .i64 (0 : Nat))).run Tryd.prog w = .ok (.string (fnS signsL 0)) w := by kernel_rfl
theorem sign_1 (w : World) : (Instr.index 79 (.agg (signsL.map Value.string).toArray) (.int .i64 (1 : Nat))).run Tryd.prog w = .ok (.string (fnS signsL 1)) w := by kernel_rfl
theorem sign_2 (w : World) : (Instr.index 79 (.agg (signsL.map Value.string).toArray) (.int .i64 (2 : Nat))).run Tryd.prog w = .ok (.string (fnS signsL 2)) w := by kernel_rfl
theorem sign_3 (w : World) : (Instr.index 79 (.agg (signsL.map Value.string).toArray) (.int .i64 (3 : Nat))).run Tryd.prog w = .ok (.string (fnS signsL 3)) w := by kernel_rfl
theorem sign_4 (w : World) : (Instr.index 79 (.agg (signsL.map Value.string).toArray) (.int .i64 (4 : Nat))).run Tryd.prog w = .ok (.string (fnS signsL 4)) w := by kernel_rfl
theorem sign_5 (w : World) : (Instr.index 79 (.agg (signsL.map Value.string).toArray) (.int .i64 (5 : Nat))).run Tryd.prog w = .ok (.string (fnS signsL 5)) w := by kernel_rfl
theorem sign_6 (w : World) : (Instr.index 79 (.agg (signsL.map Value.string).toArray) (.int .i64 (6 : Nat))).run Tryd.prog w = .ok (.string (fnS signsL 6)) w := by kernel_rfl
theorem sign_7 (w : World) : (Instr.index 79 (.agg (signsL.map Value.string).toArray) (.int .i64 (7 : Nat))).run Tryd.prog w = .ok (.string (fnS signsL 7)) w := by kernel_rfl
theorem sign_8 (w : World) : (Instr.index 79 (.agg (signsL.map Value.string).toArray) (.int .i64 (8 : Nat))).run Tryd.prog w = .ok (.string (fnS signsL 8)) w := by kernel_rfl
theorem sign_9 (w : World) : (Instr.index 79 (.agg (signsL.map Value.string).toArray) (.int .i64 (9 : Nat))).run Tryd.prog w = .ok (.string (fnS signsL 9)) w := by kernel_rfl
theorem sign_10 (w : World) : (Instr.index 79 (.agg (signsL.map Value.string).toArray) (.int .i64 (10 : Nat))).run Tryd.prog w = .ok (.string (fnS signsL 10)) w := by kernel_rfl
theorem sign_11 (w : World) : (Instr.index 79 (.agg (signsL.map Value.string).toArray) (.int .i64 (11 : Nat))).run Tryd.prog w = .ok (.string (fnS signsL 11)) w := by kernel_rfl
theorem sign_12 (w : World) : (Instr.index 79 (.agg (signsL.map Value.string).toArray) (.int .i64 (12 : Nat))).run Tryd.prog w = .ok (.string (fnS signsL 12)) w := by kernel_rfl
theorem sign_13 (w : World) : (Instr.index 79 (.agg (signsL.map Value.string).toArray) (.int .i64 (13 : Nat))).run Tryd.prog w = .ok (.string (fnS signsL 13)) w := by kernel_rfl
theorem sign_14 (w : World) : (Instr.index 79 (.agg (signsL.map Value.string).toArray) (.int .i64 (14 : Nat))).run Tryd.prog w = .ok (.string (fnS signsL 14)) w := by kernel_rfl
theorem sign_15 (w : World) : (Instr.index 79 (.agg (signsL.map Value.string).toArray) (.int .i64 (15 : Nat))).run Tryd.prog w = .ok (.string (fnS signsL 15)) w := by kernel_rfl
theorem sign_16 (w : World) : (Instr.index 79 (.agg (signsL.map Value.string).toArray) (.int .i64 (16 : Nat))).run Tryd.prog w = .ok (.string (fnS signsL 16)) w := by kernel_rfl
theorem sign_17 (w : World) : (Instr.index 79 (.agg (signsL.map Value.string).toArray) (.int .i64 (17 : Nat))).run Tryd.prog w = .ok (.string (fnS signsL 17)) w := by kernel_rfl
theorem sign_18 (w : World) : (Instr.index 79 (.agg (signsL.map Value.string).toArray) (.int .i64 (18 : Nat))).run Tryd.prog w = .ok (.string (fnS signsL 18)) w := by kernel_rfl
theorem sign_19 (w : World) : (Instr.index 79 (.agg (signsL.map Value.string).toArray) (.int .i64 (19 : Nat))).run Tryd.prog w = .ok (.string (fnS signsL 19)) w := by kernel_rfl
theorem sign_20 (w : World) : (Instr.index 79 (.agg (signsL.map Value.string).toArray) (.int .i64 (20 : Nat))).run Tryd.prog w = .ok (.string (fnS signsL 20)) w := by kernel_rfl
theorem sign_21 (w : World) : (Instr.index 79 (.agg (signsL.map Value.string).toArray) (.int .i64 (21 : Nat))).run Tryd.prog w = .ok (.string (fnS signsL 21)) w := by kernel_rfl
theorem sign_22 (w : World) : (Instr.index 79 (.agg (signsL.map Value.string).toArray) (.int .i64 (22 : Nat))).run Tryd.prog w = .ok (.string (fnS signsL 22)) w := by kernel_rfl
theorem sign_23 (w : World) : (Instr.index 79 (.agg (signsL.map Value.string).toArray) (.int .i64 (23 : Nat))).run Tryd.prog w = .ok (.string (fnS signsL 23)) w := by kernel_rfl
theorem sign_24 (w : World) : (Instr.index 79 (.agg (signsL.map Value.string).toArray) (.int .i64 (24 : Nat))).run Tryd.prog w = .ok (.string (fnS signsL 24)) w := by kernel_rfl
theorem sign_25 (w : World) : (Instr.index 79 (.agg (signsL.map Value.string).toArray) (.int .i64 (25 : Nat))).run Tryd.prog w = .ok (.string (fnS signsL 25)) w := by kernel_rfl
theorem sign_26 (w : World) : (Instr.index 79 (.agg (signsL.map Value.string).toArray) (.int .i64 (26 : Nat))).run Tryd.prog w = .ok (.string (fnS signsL 26)) w := by kernel_rfl
theorem sign_27 (w : World) : (Instr.index 79 (.agg (signsL.map Value.string).toArray) (.int .i64 (27 : Nat))).run Tryd.prog w = .ok (.string (fnS signsL 27)) w := by kernel_rfl
theorem sign_28 (w : World) : (Instr.index 79 (.agg (signsL.map Value.string).toArray) (.int .i64 (28 : Nat))).run Tryd.prog w = .ok (.string (fnS signsL 28)) w := by kernel_rfl
theorem sign_29 (w : World) : (Instr.index 79 (.agg (signsL.map Value.string).toArray) (.int .i64 (29 : Nat))).run Tryd.prog w = .ok (.string (fnS signsL 29)) w := by kernel_rfl
theorem sign_30 (w : World) : (Instr.index 79 (.agg (signsL.map Value.string).toArray) (.int .i64 (30 : Nat))).run Tryd.prog w = .ok (.string (fnS signsL 30)) w := by kernel_rfl
theorem sign_31 (w : World) : (Instr.index 79 (.agg (signsL.map Value.string).toArray) (.int .i64 (31 : Nat))).run Tryd.prog w = .ok (.string (fnS signsL 31)) w := by kernel_rfl
theorem sign_32 (w : World) : (Instr.index 79 (.agg (signsL.map Value.string).toArray) (.int .i64 (32 : Nat))).run Tryd.prog w = .ok (.string (fnS signsL 32)) w := by kernel_rfl
theorem sign_index (k : Nat) (hk : k < 33) (w : World) : (Instr.index 79 (.agg (signsL.map Value.string).toArray) (.int .i64 k)).run Tryd.prog w = .ok (.string (fnS signsL k)) w :=
  match k, hk with
  | 0, _ => sign_0 w
  | 1, _ => sign_1 w
  | 2, _ => sign_2 w
  | 3, _ => sign_3 w
  | 4, _ => sign_4 w
  | 5, _ => sign_5 w
  | 6, _ => sign_6 w
  | 7, _ => sign_7 w
  | 8, _ => sign_8 w
  | 9, _ => sign_9 w
  | 10, _ => sign_10 w
  | 11, _ => sign_11 w
  | 12, _ => sign_12 w
  | 13, _ => sign_13 w
  | 14, _ => sign_14 w
  | 15, _ => sign_15 w
  | 16, _ => sign_16 w
  | 17, _ => sign_17 w
  | 18, _ => sign_18 w
  | 19, _ => sign_19 w
  | 20, _ => sign_20 w
  | 21, _ => sign_21 w
  | 22, _ => sign_22 w
  | 23, _ => sign_23 w
  | 24, _ => sign_24 w
  | 25, _ => sign_25 w
  | 26, _ => sign_26 w
  | 27, _ => sign_27 w
  | 28, _ => sign_28 w
  | 29, _ => sign_29 w
  | 30, _ => sign_30 w
  | 31, _ => sign_31 w
  | 32, _ => sign_32 w
  | k + 33, h => absurd h (by omega)
set_option maxHeartbeats 3200000 in
set_option maxRecDepth 100000 in
theorem c_sign (s : ByteArray) (w : World) (hg : SignsAt w) : Calls Tryd.prog 52 #[.string s] w fun e w' => e = .returned (.string (signV s.data.toList)) ∧ w = w' := by
  obtain ⟨t, fr, h0⟩ := hg
  obtain ⟨cs, hcs⟩ : ∃ cs, cs = (signsL.map Value.string).toArray := ⟨_, rfl⟩
  rw [← hcs] at h0
  have HI := Lib.hid (fun (k : Nat) (hk : k < 33) (w : World) => (show (Instr.index 79 (.agg cs) (.int .i64 k)).run Tryd.prog w = .ok (.string (fnS signsL k)) w by rw [hcs]; exact sign_index k hk w))
  have HZ := Lib.hid (show (Tryd.prog.info? 79).map (·.size) = some cs.size by rw [hcs]; kernel_rfl)
  have H0 := Lib.hid h0
  clear hcs h0
  obtain ⟨p, hp⟩ : ∃ p : ByteArray → Bool, p = fun g => Lib.hasPrefix s.data.toList g.data.toList := ⟨_, rfl⟩
  have HP := Lib.hid (fun g => show Lib.hasPrefix s.data.toList g.data.toList = p g by rw [hp])
  have HV := Lib.hid (show signV s.data.toList = (signsL.find? p).getD ⟨#[]⟩ by rw [hp]; rfl)
  clear hp
  go_enter Tryd.func52, Tryd.ntmps52
  go_wp2_with (refine wpList_load_row rfl 79 _ rfl 0 rfl t cs fr _ H0.out Tryd.underlying79 rfl HZ.out ?_)
  go_loop [6] (fun i => ∃ k : Nat, k ≤ 33 ∧ i = .int .i64 k ∧ Hid (signsL.find? p = (signsL.drop k).find? p)) (fun i => 33 - (intOf i).toNat)
  case atStart => exact ⟨0, by omega, rfl, Lib.hid rfl⟩
  case round =>
    obtain ⟨k, hk, rfl, HF⟩ := hrel
    by_cases hlt : k < 33
    · have hi := HI.out k hlt
      have HD := Lib.hid (show signsL.drop k = fnS signsL k :: signsL.drop (k + 1) by
        have h1 : k < signsL.length := hlt
        rw [List.drop_eq_getElem_cons h1]
        simp [fnS, List.getD_eq_getElem?_getD, List.getElem?_eq_getElem h1])
      have hr := HP.out (fnS signsL k)
      cases hv : p (fnS signsL k) with
      | true =>
        have HR := Lib.hid (hr.trans hv)
        have HFV := Lib.hid (show signV s.data.toList = fnS signsL k by rw [HV.out, HF.out, HD.out, List.find?_cons, hv]; rfl)
        clear hr hv
        go_wp2_with (first | (go_at_call 36; refine (Tryd.strings_HasPrefix s (fnS signsL k) _).mono ?_; rintro e w' ⟨rfl, hw⟩; subst hw; rw [HR.out]))
        go_ret
        exact ⟨by rw [HFV.out]; rfl, rfl⟩
      | false =>
        have HR := Lib.hid (hr.trans hv)
        have HN := Lib.hid (show signsL.find? p = (signsL.drop (k + 1)).find? p by rw [HF.out, HD.out, List.find?_cons, hv])
        clear hr hv
        go_wp2_with (first | (go_at_call 36; refine (Tryd.strings_HasPrefix s (fnS signsL k) _).mono ?_; rintro e w' ⟨rfl, hw⟩; subst hw; rw [HR.out]))
        go_round
        case rel => exact ⟨k + 1, by omega, by go_num, HN⟩
        case measure => simp [intOf]; omega
    · obtain rfl : k = 33 := by omega
      have HFV := Lib.hid (show signV s.data.toList = ⟨#[]⟩ by rw [HV.out, HF.out]; rfl)
      go_wp2_with fail
      go_ret
      exact ⟨by rw [HFV.out]; rfl, rfl⟩
end Go.Proofs.YtjpmgloofcgfnaaDoor
