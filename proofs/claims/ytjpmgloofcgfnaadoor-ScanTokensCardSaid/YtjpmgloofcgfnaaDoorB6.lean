/- What begins at a place of the text: read of the reader. Condition: the reader lies in a block of its own; the library's variables hold what they must. -/
import Derived.Test.YtjpmgloofcgfnaaDoorB5
import Derived.Lib.IndexBytes
namespace Go.Proofs.YtjpmgloofcgfnaaDoor
open Go.RowKit
set_option linter.unusedVariables false
set_option linter.unusedSimpArgs false

/-- What is read at a place: the error, or what is done and the tokens. -/
noncomputable def readV (s : ByteArray) (done : Int) (L : List Tk) (pos : Nat) (c : Int) : Except Int (Int × List Tk) :=
  if c = 10 then (match endV L pos with | some L' => .ok (done, L') | none => .error 6)
  else if c = 9 ∨ c = 13 ∨ c = 32 then .ok (done, L)
  else if Lib.hasPrefix (s.data.toList.drop pos) [47, 47] = true then .ok ((pos + (Lib.cut (s.data.toList.drop pos) [10]).1.length : Nat), L)
  else if (firstV (s.extract pos s.size) c).2 ≠ 0 then .error (firstV (s.extract pos s.size) c).2
  else if 16384 ≤ L.length then .error 6
  else .ok ((pos + (firstV (s.extract pos s.size) c).1.text.size : Nat), L ++ [{ (firstV (s.extract pos s.size) c).1 with pos := pos }])
def MaxAt (w : World) : Prop := ∃ m, w.cell? ⟨3, 0, none⟩ = some (.int .i64 m)
theorem MaxAt.keep {w w' : World} (h : MaxAt w) (hk : Kp w w') : MaxAt w' := by
  obtain ⟨m, e⟩ := h
  exact ⟨m, hk.cellv e⟩
theorem rest_list (s : ByteArray) (pos : Nat) : (s.extract pos s.size).data.toList = s.data.toList.drop pos := by
  exact Lib.extract_to_end s pos
theorem c_HasPrefix (s p : ByteArray) (w : World) : Calls Tryd.prog 36 #[.string s, .string p] w fun e w' => e = .returned (.bool (Lib.hasPrefix s.data.toList p.data.toList)) ∧ w = w' :=
  (Tryd.strings_HasPrefix s p w).mono fun e w' h => ⟨h.1, h.2.symm⟩
theorem c_Cut (s sep : ByteArray) (m : Int) (w : World) (hs : s.size < 4294967281) (hm : w.cell? ⟨3, 0, none⟩ = some (.int .i64 m)) :
    Calls Tryd.prog 37 #[.string s, .string sep] w fun e w' => e = .returned (.tuple #[.string ⟨(Lib.cut s.data.toList sep.data.toList).1.toArray⟩, .string ⟨(Lib.cut s.data.toList sep.data.toList).2.1.toArray⟩, .bool (Lib.cut s.data.toList sep.data.toList).2.2]) ∧ ∃ n, w.drewN n = w' :=
  (Tryd.strings_Cut s sep m w hs hm).mono fun e w' ⟨h1, n, h2⟩ => ⟨h1, n, h2.symm⟩
theorem cut_len (l : List UInt8) : (Lib.cut l [10]).1.length ≤ l.length := by
  unfold Lib.cut
  split
  · simp only [List.length_take]; omega
  · exact Nat.le_refl _
theorem ext_size (s : ByteArray) (pos : Nat) : (s.extract pos s.size).size ≤ s.size := by
  rw [← size_list, rest_list, List.length_drop, size_list]; omega
theorem sign_size (l : List UInt8) : (signV l).size ≤ 2 := by
  unfold signV
  have h : ∀ g ∈ signsL, g.size ≤ 2 := by decide
  cases hf : signsL.find? (fun g => Lib.hasPrefix l g.data.toList) with
  | none => exact Nat.zero_le _
  | some g => exact h g (List.mem_of_find?_eq_some hf)
theorem first_size (s : ByteArray) (c : Int) : (firstV s c).1.text.size ≤ s.size + 2 := by
  have h1 := size_ext s (spanE s)
  have h2 := sign_size s.data.toList
  have h0 : (⟨#[]⟩ : ByteArray).size = 0 := rfl
  have h3 : (⟨#[59]⟩ : ByteArray).size = 1 := rfl
  unfold firstV namedV
  repeat' split
  all_goals (simp only [noTk]; omega)
/-- What comes of it. -/
def ReadP (rb : Nat) (s : ByteArray) (r : Except Int (Int × List Tk)) (w : World) (e : Ending) (w' : World) : Prop :=
  match r with
  | .ok (d, L) => e = .returned (.int .i64 0) ∧ ∃ v', RS w' rb s d L v' ∧ Gt rb w w'
  | .error er => e = .returned (.int .i64 er) ∧ er ≠ 0 ∧ Gt rb w w'
theorem RS.setDone {w : World} {rb : Nat} {s : ByteArray} {done : Int} {L : List Tk} {v : Value} (h : RS w rb s done L v) (d : Int) : RS (w.setCell ⟨rb, 1, none⟩ (.int .i64 d)) rb s d L v :=
  ⟨Lib.heap_setCell_same (i := 1) h.blk _, own_fr h.row (fr_set w ⟨rb, 1, none⟩ _) (fun k (hk : k = rb) => by omega)⟩
theorem read_nl (rb : Nat) (s : ByteArray) (done : Int) (L : List Tk) (v : Value) (pos : Nat) (w : World) (h : RS w rb s done L v) (hb : L.length ≤ 1000000) (hp : pos ≤ s.size) (hs : s.size ≤ 65536) :
    Calls Tryd.prog 23 #[.pointer (some ⟨rb, 0, none⟩), .int .i64 pos, .int .i32 10] w (ReadP rb s (readV s done L pos 10) w) := by
  obtain ⟨c0, c1, c2, cf, hlt⟩ := h.cellsR
  have HR := Lib.hid h
  clear h
  cases hv : endV L pos with
  | some L' =>
    have HV := Lib.hid hv
    rw [show readV s done L pos 10 = .ok (done, L') by unfold readV; rw [if_pos rfl, hv]]
    go_enter Tryd.func23, Tryd.ntmps23
    go_wp2_with (first | (go_at_call 24; refine (c_endLine rb s done pos L v _ HR.out hb).mono ?_; rintro e w2 q; obtain ⟨rfl, v', hr', hg'⟩ : e = .returned (.int .i64 0) ∧ ∃ v', RS w2 rb s done L' v' ∧ Gt rb w w2 := (by rcases q with ⟨L2, h1, h2, h3⟩ | ⟨h1, _⟩; (· obtain rfl := Option.some.inj (HV.out.symm.trans h1); exact ⟨h2, h3⟩); (· rw [HV.out] at h1; cases h1))))
    go_ret
    exact ⟨rfl, v', hr', hg'⟩
  | none =>
    have HV := Lib.hid hv
    rw [show readV s done L pos 10 = .error 6 by unfold readV; rw [if_pos rfl, hv]]
    go_enter Tryd.func23, Tryd.ntmps23
    go_wp2_with (first | (go_at_call 24; refine (c_endLine rb s done pos L v _ HR.out hb).mono ?_; rintro e w2 q; obtain ⟨rfl, hg'⟩ : e = .returned (.int .i64 6) ∧ Gt rb w w2 := (by rcases q with ⟨L2, h1, _⟩ | ⟨h1, h2⟩; (· rw [HV.out] at h1; cases h1); (· exact h2))))
    go_ret
    exact ⟨rfl, by decide, hg'⟩
theorem read_blank (rb : Nat) (s : ByteArray) (done : Int) (L : List Tk) (v : Value) (pos : Nat) (c : Int) (w : World) (h : RS w rb s done L v) (hp : pos ≤ s.size) (hs : s.size ≤ 65536) (hc : c = 9 ∨ c = 13 ∨ c = 32) :
    Calls Tryd.prog 23 #[.pointer (some ⟨rb, 0, none⟩), .int .i64 pos, .int .i32 c] w (ReadP rb s (readV s done L pos c) w) := by
  obtain ⟨c0, c1, c2, cf, hlt⟩ := h.cellsR
  have HR := Lib.hid h
  clear h
  rw [show readV s done L pos c = .ok (done, L) by unfold readV; rw [if_neg (by omega), if_pos hc]]
  rcases hc with rfl | rfl | rfl <;>
  (go_enter Tryd.func23, Tryd.ntmps23
   go_wp2_with fail
   go_ret
   exact ⟨rfl, v, HR.out, Gt.refl _ _⟩)
theorem read_remark (rb : Nat) (s : ByteArray) (done : Int) (L : List Tk) (v : Value) (pos : Nat) (c : Int) (w : World) (h : RS w rb s done L v) (hp : pos ≤ s.size) (hs : s.size ≤ 65536) (hc : ¬ (c = 10 ∨ c = 9 ∨ c = 13 ∨ c = 32)) (hr : Lib.hasPrefix (s.data.toList.drop pos) [47, 47] = true) (hm : MaxAt w) :
    Calls Tryd.prog 23 #[.pointer (some ⟨rb, 0, none⟩), .int .i64 pos, .int .i32 c] w (ReadP rb s (readV s done L pos c) w) := by
  obtain ⟨c0, c1, c2, cf, hlt⟩ := h.cellsR
  have HR := Lib.hid h
  have q1 : (c == 10) = false := beq_eq_false_iff_ne.2 (by omega)
  have q2 : (c == 9) = false := beq_eq_false_iff_ne.2 (by omega)
  have q3 : (c == 13) = false := beq_eq_false_iff_ne.2 (by omega)
  have q4 : (c == 32) = false := beq_eq_false_iff_ne.2 (by omega)
  rw [show readV s done L pos c = .ok ((pos + (Lib.cut (s.data.toList.drop pos) [10]).1.length : Nat), L) by unfold readV; rw [if_neg (by omega), if_neg (by omega), if_pos hr]]
  obtain ⟨m, hm⟩ := hm
  have HRL := Lib.hid (rest_list s pos)
  have HP := Lib.hid hr
  have hcl : (Lib.cut (s.data.toList.drop pos) [10]).1.length ≤ 65536 := by
    have h1 := cut_len (s.data.toList.drop pos)
    rw [List.length_drop, size_list] at h1
    omega
  have HES := Lib.hid (show (s.extract pos s.size).size < 4294967281 by have := ext_size s pos; omega)
  obtain ⟨cl, hcl2⟩ : ∃ cl : ByteArray, cl = ⟨(Lib.cut (s.data.toList.drop pos) [10]).1.toArray⟩ := ⟨_, rfl⟩
  have hsz : cl.size = (Lib.cut (s.data.toList.drop pos) [10]).1.length := by rw [hcl2]; show ((Lib.cut (s.data.toList.drop pos) [10]).1.toArray).size = _; simp
  have HCL := Lib.hid hcl2
  have HSZ := Lib.hid hsz
  have hcl3 : (cl.size : Int) ≤ 65536 := by rw [hsz]; omega
  rw [← hsz]
  have i1 : (pos : Int) ≤ 65536 := by omega
  have i2 : (0 : Int) ≤ pos := by omega
  clear h hc hr hcl hcl2 hsz
  go_enter Tryd.func23, Tryd.ntmps23
  go_wp2_with (first | (go_at_call 36; refine (c_HasPrefix _ _ _).mono ?_; rintro e w' ⟨rfl, rfl⟩; rw [HRL.out, show (⟨#[47, 47]⟩ : ByteArray).data.toList = [47, 47] from rfl, HP.out]) | (go_at_call 37; refine (c_Cut _ _ m _ HES.out hm).mono ?_; rintro e w2 ⟨rfl, n, rfl⟩; rw [HRL.out, show (⟨#[10]⟩ : ByteArray).data.toList = [10] from rfl, ← HCL.out]; obtain ⟨k0, k1, k2, kf, klt⟩ := (HR.out.keep ((Kp.refl w).drewN n)).cellsR; have kf1 := kf 1))
  go_ret
  exact ⟨rfl, v, (HR.out.keep ((Kp.refl w).drewN n)).setDone _, (Kp.gt ((Kp.refl w).drewN n)).trans (Gt.setR _ (p := ⟨rb, 1, none⟩) rfl _)⟩
set_option maxHeartbeats 3200000 in
set_option maxRecDepth 100000 in
theorem read_err (rb : Nat) (s : ByteArray) (done : Int) (L : List Tk) (v : Value) (pos : Nat) (c : Int) (w : World) (h : RS w rb s done L v) (hp : pos ≤ s.size) (hs : s.size ≤ 65536) (hc : ¬ (c = 10 ∨ c = 9 ∨ c = 13 ∨ c = 32)) (hr : Lib.hasPrefix (s.data.toList.drop pos) [47, 47] = false) (he : ErrAt w) (hg : SignsAt w)
    (k : Int) (tx : ByteArray) (n q er : Int) (hf : firstV (s.extract pos s.size) c = (⟨k, tx, n, q⟩, er)) (her : er ≠ 0) :
    Calls Tryd.prog 23 #[.pointer (some ⟨rb, 0, none⟩), .int .i64 pos, .int .i32 c] w (ReadP rb s (readV s done L pos c) w) := by
  obtain ⟨c0, c1, c2, cf, hlt⟩ := h.cellsR
  have HR := Lib.hid h
  have q1 : (c == 10) = false := beq_eq_false_iff_ne.2 (by omega)
  have q2 : (c == 9) = false := beq_eq_false_iff_ne.2 (by omega)
  have q3 : (c == 13) = false := beq_eq_false_iff_ne.2 (by omega)
  have q4 : (c == 32) = false := beq_eq_false_iff_ne.2 (by omega)
  rw [show readV s done L pos c = .error er by unfold readV; rw [if_neg (by omega), if_neg (by omega), if_neg (by rw [hr]; decide), hf]; simp only [her, ne_eq, not_false_eq_true, if_true]]
  have HRL := Lib.hid (rest_list s pos)
  have HP := Lib.hid hr
  have HE := Lib.hid he
  have HG := Lib.hid hg
  have HF := Lib.hid hf
  have HES := Lib.hid (show (s.extract pos s.size).size ≤ 140737488351232 by have := ext_size s pos; omega)
  have i1 : (pos : Int) ≤ 65536 := by omega
  have i2 : (0 : Int) ≤ pos := by omega
  have HER := Lib.hid her
  have q5 : (er != 0) = true := bne_iff_ne.2 her
  clear her
  clear h hc hr he hg hf
  go_enter Tryd.func23, Tryd.ntmps23
  go_wp2_with (first | (go_at_call 36; refine (c_HasPrefix _ _ _).mono ?_; rintro e w' ⟨rfl, rfl⟩; rw [HRL.out, show (⟨#[47, 47]⟩ : ByteArray).data.toList = [47, 47] from rfl, HP.out]) | (go_at_call 38; refine (c_first _ c _ HES.out HE.out HG.out).mono ?_; rintro e w2 ⟨rfl, hk2⟩; rw [HF.out, show tkE (⟨k, tx, n, q⟩, er) = .tuple #[.agg #[.int .i64 k, .string tx, .int .u64 n, .int .i64 q], .int .i64 er] from rfl]; have K2 := Lib.hid hk2; obtain ⟨k0, k1, k2, kf, klt⟩ := (HR.out.keep hk2).cellsR; have kf1 := kf 1; clear hk2) | fail)
  go_ret
  exact ⟨rfl, HER.out, K2.out.alloc _ |>.gt⟩
set_option maxHeartbeats 3200000 in
set_option maxRecDepth 100000 in
theorem read_full (rb : Nat) (s : ByteArray) (done : Int) (L : List Tk) (v : Value) (pos : Nat) (c : Int) (w : World) (h : RS w rb s done L v) (hp : pos ≤ s.size) (hs : s.size ≤ 65536) (hc : ¬ (c = 10 ∨ c = 9 ∨ c = 13 ∨ c = 32)) (hr : Lib.hasPrefix (s.data.toList.drop pos) [47, 47] = false) (he : ErrAt w) (hg : SignsAt w)
    (k : Int) (tx : ByteArray) (n q er : Int) (hf : firstV (s.extract pos s.size) c = (⟨k, tx, n, q⟩, er)) (her : er = 0) (hL : 16384 ≤ L.length) (hb : L.length ≤ 1000001) :
    Calls Tryd.prog 23 #[.pointer (some ⟨rb, 0, none⟩), .int .i64 pos, .int .i32 c] w (ReadP rb s (readV s done L pos c) w) := by
  obtain ⟨c0, c1, c2, cf, hlt⟩ := h.cellsR
  have HR := Lib.hid h
  have q1 : (c == 10) = false := beq_eq_false_iff_ne.2 (by omega)
  have q2 : (c == 9) = false := beq_eq_false_iff_ne.2 (by omega)
  have q3 : (c == 13) = false := beq_eq_false_iff_ne.2 (by omega)
  have q4 : (c == 32) = false := beq_eq_false_iff_ne.2 (by omega)
  rw [show readV s done L pos c = .error 6 by unfold readV; rw [if_neg (by omega), if_neg (by omega), if_neg (by rw [hr]; decide), hf]; simp only [her, ne_eq, not_true_eq_false, if_false, if_pos hL]]
  have HRL := Lib.hid (rest_list s pos)
  have HP := Lib.hid hr
  have HE := Lib.hid he
  have HG := Lib.hid hg
  have HF := Lib.hid hf
  have HES := Lib.hid (show (s.extract pos s.size).size ≤ 140737488351232 by have := ext_size s pos; omega)
  have i1 : (pos : Int) ≤ 65536 := by omega
  have i2 : (0 : Int) ≤ pos := by omega
  subst her
  have htx : tx.size ≤ 65538 := by have h1 := first_size (s.extract pos s.size) c; rw [hf] at h1; have h2 := ext_size s pos; simp only at h1; omega
  have i3 : (tx.size : Int) ≤ 65538 := by omega
  clear htx
  have HLL := Lib.hid hL
  have HL2 := Lib.hid hb
  clear hL hb
  clear h hc hr he hg hf
  go_enter Tryd.func23, Tryd.ntmps23
  go_wp2_with (first | (go_at_call 36; refine (c_HasPrefix _ _ _).mono ?_; rintro e w' ⟨rfl, rfl⟩; rw [HRL.out, show (⟨#[47, 47]⟩ : ByteArray).data.toList = [47, 47] from rfl, HP.out]) | (go_at_call 38; refine (c_first _ c _ HES.out HE.out HG.out).mono ?_; rintro e w2 ⟨rfl, hk2⟩; rw [HF.out, show tkE (⟨k, tx, n, q⟩, 0) = .tuple #[.agg #[.int .i64 k, .string tx, .int .u64 n, .int .i64 q], .int .i64 0] from rfl]; have K2 := Lib.hid hk2; obtain ⟨k0, k1, k2, kf, klt⟩ := (HR.out.keep hk2).cellsR; have kf1 := kf 1; clear hk2) | (go_at_call 39; refine (add_full rb s _ L v ⟨k, tx, n, pos⟩ _ (RS.keep (((HR.out.keep K2.out).setDone (pos + tx.size))) ((Kp.refl _).alloc _)) HLL.out HL2.out).mono ?_; rintro e w3 ⟨rfl, hk3⟩))
  go_ret
  exact ⟨rfl, by decide, (((Kp.gt K2.out).trans (Gt.setR _ (p := ⟨rb, 1, none⟩) rfl _)).trans (Kp.gt ((Kp.refl _).alloc _))).trans hk3.gt⟩
set_option maxHeartbeats 3200000 in
set_option maxRecDepth 100000 in
theorem read_tok (rb : Nat) (s : ByteArray) (done : Int) (L : List Tk) (v : Value) (pos : Nat) (c : Int) (w : World) (h : RS w rb s done L v) (hp : pos ≤ s.size) (hs : s.size ≤ 65536) (hc : ¬ (c = 10 ∨ c = 9 ∨ c = 13 ∨ c = 32)) (hr : Lib.hasPrefix (s.data.toList.drop pos) [47, 47] = false) (he : ErrAt w) (hg : SignsAt w)
    (k : Int) (tx : ByteArray) (n q er : Int) (hf : firstV (s.extract pos s.size) c = (⟨k, tx, n, q⟩, er)) (her : er = 0) (hL : L.length < 16384) :
    Calls Tryd.prog 23 #[.pointer (some ⟨rb, 0, none⟩), .int .i64 pos, .int .i32 c] w (ReadP rb s (readV s done L pos c) w) := by
  obtain ⟨c0, c1, c2, cf, hlt⟩ := h.cellsR
  have HR := Lib.hid h
  have q1 : (c == 10) = false := beq_eq_false_iff_ne.2 (by omega)
  have q2 : (c == 9) = false := beq_eq_false_iff_ne.2 (by omega)
  have q3 : (c == 13) = false := beq_eq_false_iff_ne.2 (by omega)
  have q4 : (c == 32) = false := beq_eq_false_iff_ne.2 (by omega)
  rw [show readV s done L pos c = .ok ((pos + tx.size : Nat), L ++ [⟨k, tx, n, pos⟩]) by unfold readV; rw [if_neg (by omega), if_neg (by omega), if_neg (by rw [hr]; decide), hf]; simp only [her, ne_eq, not_true_eq_false, if_false, if_neg (show ¬ 16384 ≤ L.length by omega)]]
  have HRL := Lib.hid (rest_list s pos)
  have HP := Lib.hid hr
  have HE := Lib.hid he
  have HG := Lib.hid hg
  have HF := Lib.hid hf
  have HES := Lib.hid (show (s.extract pos s.size).size ≤ 140737488351232 by have := ext_size s pos; omega)
  have i1 : (pos : Int) ≤ 65536 := by omega
  have i2 : (0 : Int) ≤ pos := by omega
  subst her
  have htx : tx.size ≤ 65538 := by have h1 := first_size (s.extract pos s.size) c; rw [hf] at h1; have h2 := ext_size s pos; simp only at h1; omega
  have i3 : (tx.size : Int) ≤ 65538 := by omega
  clear htx
  have HLL := Lib.hid hL
  clear hL
  clear h hc hr he hg hf
  go_enter Tryd.func23, Tryd.ntmps23
  go_wp2_with (first | (go_at_call 36; refine (c_HasPrefix _ _ _).mono ?_; rintro e w' ⟨rfl, rfl⟩; rw [HRL.out, show (⟨#[47, 47]⟩ : ByteArray).data.toList = [47, 47] from rfl, HP.out]) | (go_at_call 38; refine (c_first _ c _ HES.out HE.out HG.out).mono ?_; rintro e w2 ⟨rfl, hk2⟩; rw [HF.out, show tkE (⟨k, tx, n, q⟩, 0) = .tuple #[.agg #[.int .i64 k, .string tx, .int .u64 n, .int .i64 q], .int .i64 0] from rfl]; have K2 := Lib.hid hk2; obtain ⟨k0, k1, k2, kf, klt⟩ := (HR.out.keep hk2).cellsR; have kf1 := kf 1; clear hk2) | (go_at_call 39; refine (add_room rb s _ L v ⟨k, tx, n, pos⟩ _ (RS.keep (((HR.out.keep K2.out).setDone (pos + tx.size))) ((Kp.refl _).alloc _)) HLL.out).mono ?_; rintro e w3 ⟨rfl, v3, hr3, hg3⟩))
  go_ret
  exact ⟨rfl, v3, hr3, (((Kp.gt K2.out).trans (Gt.setR _ (p := ⟨rb, 1, none⟩) rfl _)).trans (Kp.gt ((Kp.refl _).alloc _))).trans hg3⟩
end Go.Proofs.YtjpmgloofcgfnaaDoor
