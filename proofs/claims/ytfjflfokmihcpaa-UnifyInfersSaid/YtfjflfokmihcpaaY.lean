/- The parameters in a type: Holes of the reference. Condition: the type is sound and lies below the list. -/
import Derived.Test.YtfjflfokmihcpaaW
namespace Go.Proofs.Ytfjflfokmihcpaa
open Go.RowKit
set_option linter.unusedVariables false
set_option linter.unusedSimpArgs false

/-- The list, and the parameter's name if it stands there not yet. -/
noncomputable def addN (L : List ByteArray) (T : Ty) : List ByteArray := if T.k = 12 then (if hasB L T.nm = true then L else L ++ [T.nm]) else L
/-- The names of the parameters in a type, in order, behind others. -/
noncomputable def holes : Nat → Ty → List ByteArray → List ByteArray
  | 0, _, L => L
  | r + 1, T, L => T.kids.foldl (fun L X => holes r X L) (addN L T)
theorem holes_succ (r : Nat) (T : Ty) (L : List ByteArray) : holes (r + 1) T L = T.kids.foldl (fun L X => holes r X L) (addN L T) := rfl
/-- So many types are in a type at most. -/
def HB : Nat → Nat
  | 0 => 0
  | r + 1 => 1 + 17 * HB r
theorem HB_9 : HB 9 ≤ 8796093022208 := by decide
theorem addN_len (L : List ByteArray) (T : Ty) : (addN L T).length ≤ L.length + 1 := by
  unfold addN
  split
  · split
    · omega
    · simp
  · omega
theorem fold_len {f : List ByteArray → Ty → List ByteArray} {b : Nat} : ∀ {l : List Ty} (L : List ByteArray), (∀ X ∈ l, ∀ L, (f L X).length ≤ L.length + b) → (l.foldl f L).length ≤ L.length + l.length * b
  | [], L, _ => by simp
  | T :: l, L, h => by
    have h1 := h T (List.mem_cons_self ..) L
    have h2 := fold_len (f L T) (fun X hX => h X (List.mem_cons_of_mem _ hX))
    simp only [List.foldl_cons, List.length_cons, Nat.add_mul, Nat.one_mul]
    omega
theorem kid_mem {r : Nat} {T : Ty} (h : (look (r + 1) T).2.2 = true) : ∀ X ∈ T.kids, (look r X).2.2 = true := fun X hX => by
  obtain ⟨i, hi, e⟩ := List.getElem_of_mem hX
  exact (look_parts h).2 i X (by rw [← e]; exact List.getElem?_eq_getElem hi)
theorem holes_len : ∀ {r : Nat} {T : Ty}, (look r T).2.2 = true → ∀ L, (holes r T L).length ≤ L.length + HB r
  | 0, T, h => by rw [look_zero] at h; cases h
  | r + 1, T, h => fun L => by
    have h1 := fold_len (f := fun L X => holes r X L) (b := HB r) (l := T.kids) (addN L T) (fun X hX L => holes_len (kid_mem h X hX) L)
    have h2 := addN_len L T
    have h3 := few_of h
    have h4 := Nat.mul_le_mul_right (HB r) h3
    rw [holes_succ, HB]
    omega
theorem fold_len_take {r : Nat} {T : Ty} (h : (look (r + 1) T).2.2 = true) (L : List ByteArray) (n : Nat) (hn : n ≤ T.kids.length) : ((T.kids.take n).foldl (fun L X => holes r X L) L).length ≤ L.length + n * HB r := by
  have := fold_len (f := fun L X => holes r X L) (b := HB r) (l := T.kids.take n) L (fun X hX L => holes_len (kid_mem h X (List.mem_of_mem_take hX)) L)
  simp only [List.length_take, Nat.min_eq_left hn] at this
  exact this
theorem fold_next {f : List ByteArray → Ty → List ByteArray} {l : List Ty} {n : Nat} {X : Ty} (hX : l[n]? = some X) (L : List ByteArray) : (l.take (n + 1)).foldl f L = f ((l.take n).foldl f L) X := by
  rw [List.take_add_one, hX, List.foldl_append]
  rfl
theorem addN_other {L : List ByteArray} {T : Ty} (h : T.k ≠ 12) : addN L T = L := by unfold addN; rw [if_neg h]
theorem addN_has {L : List ByteArray} {T : Ty} (h : hasB L T.nm = true) : addN L T = L := by unfold addN; split <;> simp [h]
theorem addN_new {L : List ByteArray} {T : Ty} (h : T.k = 12) (hh : hasB L T.nm = false) : addN L T = L ++ [T.nm] := by unfold addN; rw [if_pos h, hh]; rfl
theorem fm_12 {h : Hd} {fn : List ByteArray} (hf : fm h fn = true) (hk : h.k = 12) : h.fl = 0 ∧ h.ll = 0 ∧ h.rl = 0 := by
  simp [fm, hk, bareB] at hf
  omega
theorem rowS_push {w : World} {base : Nat} {v : Value} {L : List ByteArray} {s : ByteArray} (h : w.ownsRow base 9 1 v (L.length + 1) (L.map Value.string ++ [.string s])) : rowS w base v (L ++ [s]) := by
  unfold rowS
  simpa using h
set_option maxHeartbeats 3200000 in
set_option maxRecDepth 100000 in
/-- No parameter: what is in it is gone through. -/
theorem holes_other (r R base : Nat) (T : Ty) (h : Hd) (K : Nat → Hd) (w : World) (v : Value) (L : List ByteArray) (t : Top w (LowS base) T h K) (hh : ∀ i X, T.kids[i]? = some X → Lies w (LowS base) R X (K i)) (hs : (look (r + 1) T).2.2 = true) (hk : h.k ≠ 12) (hr : rowS w base v L) (hL : L.length + HB (r + 1) ≤ 8796093022208) (hb : base ≤ w.heap.size)
    (ih : ∀ (X : Ty) (hx : Hd) (W : World) (v : Value) (L : List ByteArray), Lies W (LowS base) R X hx → (look r X).2.2 = true → rowS W base v L → L.length + HB r ≤ 8796093022208 → base ≤ W.heap.size → Calls Try.prog 19 #[hx.val, v] W fun e w' => ∃ v', e = .returned v' ∧ rowS w' base v' (holes r X L) ∧ Gs base (fun _ => False) W w') :
    Calls Try.prog 19 #[h.val, v] w fun e w' => ∃ v', e = .returned v' ∧ rowS w' base v' (holes (r + 1) T L) ∧ Gs base (fun _ => False) w w' := by
  have hfew := few_of hs
  have hq : (h.k == 12) = false := beq_eq_false_iff_ne.2 hk
  have ha := addN_other (L := L) (T := T) (by rw [t.ek]; exact hk)
  have HE : Hid (holes (r + 1) T L = T.kids.foldl (fun L X => holes r X L) L) := Lib.hid (by rw [holes_succ, ha])
  have HT := Lib.hid (t.weak (LowS_le base))
  have HH := Lib.hid hh
  have HS := Lib.hid hs
  have HR := Lib.hid hr
  have IH := Lib.hid ih
  have hL' : L.length + (1 + 17 * HB r) ≤ 8796093022208 := hL
  clear t hh hs hr ih hk ha hL
  have hbB : Hid (∀ n, n ≤ T.kids.length → ((T.kids.take n).foldl (fun L X => holes r X L) L).length ≤ L.length + n * HB r) := Lib.hid (fun n hn => fold_len_take HS.out L n hn)
  generalize HB r = q at hL' hbB IH
  go_enter Try.func19, Try.ntmps19
  go_wp2_with (first | (go_at_call 34; refine (c_Inner T h K _ (HT.out.keep ((Kp.refl w).alloc _)) (by omega)).mono ?_; rintro e w1 ⟨ad, c, rfl, htab, hk1⟩))
  have HTB := Lib.hid htab
  have K1 := Lib.hid (((Kp.refl w).alloc _).trans hk1)
  have hs1 := K1.out.sz
  clear htab hk1
  go_loopw [1, 6] (fun l i wr => ∃ (n : Nat), n ≤ T.kids.length ∧ i = .int .i64 n ∧ Hid (rowS wr base l ((T.kids.take n).foldl (fun L X => holes r X L) L)) ∧ Gs base (fun _ => False) w1 wr) (fun _ i _ => T.kids.length - (intOf i).toNat)
  case atStart => exact ⟨0, by omega, rfl, Lib.hid (HR.out.keep K1.out), Gs.refl _ _ _⟩
  case round =>
    obtain ⟨n, hn, rfl, HW, hg⟩ := hrel
    have HG := Lib.hid hg
    have hsw := hg.sz
    clear hg
    by_cases hlt : n < T.kids.length
    · obtain ⟨b, o, hab, hrg⟩ := (HTB.out.gs (by decide) (fun _ x => x.elim) HG.out).at (by omega)
      have HA := Lib.hid hab
      have HRG := Lib.hid (hrg n hlt)
      obtain ⟨X, hX⟩ : ∃ X, T.kids[n]? = some X := ⟨_, List.getElem?_eq_getElem hlt⟩
      have HX := Lib.hid hX
      have hln := hbB.out n hn
      have hnq : n * q ≤ 16 * q := Nat.mul_le_mul_right q (by omega)
      clear hab hrg hX
      go_wp2_with (first | ((with_reducible show wpList _ _ _ (⟨some 32, _, _, _, _, _⟩ :: _) _ _); refine wpList_index_tab (d := 32) _ _ _ rfl 42 Try.underlying23 6 rfl _ _ _ _ o (by rfl) HA.out n (by rfl) hlt ?_) | ((with_reducible show wpList _ _ _ (⟨some 33, _, _, _, _, _⟩ :: _) _ _); refine wpList_load_ty (d := 33) _ _ rfl _ Try.underlying42 wr _ _ b (o + n * 6) (by rfl) rfl (by first | rfl | omega) (K n) HRG.out (Kp.refl wr) rfl ?_) | (go_at_call 19; (with_reducible refine (IH.out X (K n) _ _ _ ((HH.out n X HX.out).keep K1.out |>.gs HG.out) (kid_mem HS.out X (List.mem_of_getElem? HX.out)) HW.out (by omega) (by omega)).mono ?_); rintro e w4 ⟨v4, rfl, ho4, hg4⟩))
      go_roundw
      case rel => exact ⟨n + 1, by omega, by go_num, Lib.hid (by rw [fold_next HX.out]; exact ho4), HG.out.trans hg4⟩
      case measure => simp [intOf]; omega
    · obtain rfl : n = T.kids.length := by omega
      go_wp2_with fail
      go_ret
      exact ⟨_, rfl, by rw [HE.out]; have := HW.out; rwa [List.take_length] at this, (Kp.gs K1.out).trans HG.out⟩
theorem Top.gs {b : Nat} {X : Nat → Prop} {w w' : World} {T : Ty} {h : Hd} {K : Nat → Hd} (t : Top w (LowS b) T h K) (hg : Gs b X w w') : Top w' (LowS b) T h K :=
  t.turn hg.fr hg.sz (fun k _ (hS : k < b) hn => hn hS)
set_option maxHeartbeats 3200000 in
set_option maxRecDepth 100000 in
/-- A parameter that stands there already. -/
theorem holes_has (r base : Nat) (T : Ty) (h : Hd) (K : Nat → Hd) (w : World) (v : Value) (L : List ByteArray) (t : Top w (LowS base) T h K) (hk : h.k = 12) (hf : h.fl = 0 ∧ h.ll = 0 ∧ h.rl = 0) (hh : hasB L h.nm = true) (hr : rowS w base v L) (hL : L.length + HB (r + 1) ≤ 8796093022208) :
    Calls Try.prog 19 #[h.val, v] w fun e w' => ∃ v', e = .returned v' ∧ rowS w' base v' (holes (r + 1) T L) ∧ Gs base (fun _ => False) w w' := by
  have hkl : T.kids.length = 0 := by have := t.es; omega
  have HE : Hid (holes (r + 1) T L = L) := Lib.hid (by rw [holes_succ, List.eq_nil_of_length_eq_zero hkl, addN_has (by rw [t.en]; exact hh)]; rfl)
  have HT := Lib.hid (t.weak (LowS_le base))
  have HR := Lib.hid hr
  obtain ⟨ad, c, rfl, _, htab⟩ := hr.tab
  have HTB := Lib.hid htab
  have HH := Lib.hid hh
  have HKL := Lib.hid hkl
  have hlb : L.length ≤ 9223372036854775807 := by omega
  clear htab hr t hf hkl hh hL
  obtain ⟨k, nm, con, fa, fl, fc, la, ll, lc, ra, rl, rc⟩ := h
  simp only at hk HH
  subst hk
  go_enter Try.func19, Try.ntmps19
  go_wp2_with (first | (go_at_call 33; (with_reducible refine (c_has _ (From base) ad c L nm (HTB.out.keep ((Kp.refl w).alloc _)) hlb).mono ?_); rintro e w5 ⟨rfl, hk1⟩; rw [HH.out]; have K1 := Lib.hid (((Kp.refl w).alloc _).trans hk1); obtain ⟨q0, q1, q2, q3, q4, q5, qs⟩ := boxed (h := ⟨12, nm, con, fa, fl, fc, la, ll, lc, ra, rl, rc⟩) hk1; have ql : w.heap.size < w5.heap.size := qs) | (go_at_call 34; refine (c_Inner T ⟨12, nm, con, fa, fl, fc, la, ll, lc, ra, rl, rc⟩ K _ (HT.out.keep K1.out) (by have := HKL.out; omega)).mono ?_; rintro e w6 ⟨ad2, c2, rfl, htab, hk2⟩; rw [HKL.out]; clear htab))
  refine wp_loop_rounds 1 ?_
  rw [rounds_succ]
  go_wp2_with fail
  go_ret
  exact ⟨_, rfl, by rw [HE.out]; exact HR.out.keep (K1.out.trans hk2), (K1.out.trans hk2).gs⟩
set_option maxHeartbeats 3200000 in
set_option maxRecDepth 100000 in
/-- A parameter that is new. -/
theorem holes_new (r base : Nat) (T : Ty) (h : Hd) (K : Nat → Hd) (w : World) (v : Value) (L : List ByteArray) (t : Top w (LowS base) T h K) (hk : h.k = 12) (hf : h.fl = 0 ∧ h.ll = 0 ∧ h.rl = 0) (hh : hasB L h.nm = false) (hr : rowS w base v L) (hL : L.length + HB (r + 1) ≤ 8796093022208) (hb : base ≤ w.heap.size) :
    Calls Try.prog 19 #[h.val, v] w fun e w' => ∃ v', e = .returned v' ∧ rowS w' base v' (holes (r + 1) T L) ∧ Gs base (fun _ => False) w w' := by
  have hkl : T.kids.length = 0 := by have := t.es; omega
  have HE : Hid (holes (r + 1) T L = L ++ [h.nm]) := Lib.hid (by rw [holes_succ, List.eq_nil_of_length_eq_zero hkl, addN_new (by rw [t.ek]; exact hk) (by rw [t.en]; exact hh), t.en]; rfl)
  have HT := Lib.hid t
  have HR := Lib.hid hr
  obtain ⟨ad, c, rfl, _, htab⟩ := hr.tab
  have HTB := Lib.hid htab
  have HH := Lib.hid hh
  have HKL := Lib.hid hkl
  have hlb : L.length ≤ 9223372036854775807 := by omega
  have hlq : L.length + 1 ≤ 8796093022208 := by have : HB (r + 1) = 1 + 17 * HB r := rfl; omega
  obtain ⟨i2, hs, hx0, hx1, hx2⟩ := info_parts infoS
  clear htab hr t hf hkl hh hL
  obtain ⟨k, nm, con, fa, fl, fc, la, ll, lc, ra, rl, rc⟩ := h
  simp only at hk HH HE
  subst hk
  go_enter Try.func19, Try.ntmps19
  go_wp2_with (first | (go_at_call 33; (with_reducible refine (c_has _ (From base) ad c L nm (HTB.out.keep ((Kp.refl w).alloc _)) hlb).mono ?_); rintro e w5 ⟨rfl, hk1⟩; rw [HH.out]; have K1 := Lib.hid (((Kp.refl w).alloc _).trans hk1); have KB1 := Lib.hid hk1; obtain ⟨q0, q1, q2, q3, q4, q5, qs⟩ := boxed (h := ⟨12, nm, con, fa, fl, fc, la, ll, lc, ra, rl, rc⟩) hk1; have ql : w.heap.size < w5.heap.size := qs) | ((with_reducible show wpList _ _ _ (⟨some 21, _, _, _, _, _⟩ :: _) _ _); refine wpList_append_one (d := 21) _ _ 22 rfl base 9 i2 _ 1 16 Try.underlying22 hs hx0 hx1 hx2 rfl (by decide) _ L.length _ (by rfl) _ (show World.ownsRow w5 base 9 1 (.slice ad L.length c) L.length (L.map Value.string) from HR.out.keep K1.out) [.string nm] _ _ _ (by rfl) (by first | rfl | simp) (by rfl) (by rfl) (by intro u hu; simp at hu; rcases hu with rfl | rfl | rfl | rfl | rfl | rfl | rfl <;> rfl) (by unfold maxLen; omega) (by omega) (by first | omega | (simp; omega)) ?_; intro v1 w1 ho1 hg1; have GA := Lib.hid ((HR.out.keep (K1.out.alloc _)).grown (X := fun _ => False) hg1); have GB := Lib.hid (Gs.trans (Kp.gs (KB1.out.alloc _)) GA.out); have GW := Lib.hid (Gs.trans (Kp.gs (K1.out.alloc _)) GA.out); obtain ⟨p0, p1, p2, p3, p4, p5, ps⟩ := boxS (h := ⟨12, nm, con, fa, fl, fc, la, ll, lc, ra, rl, rc⟩) (fun x => x) GB.out) | (go_at_call 34; refine (c_Inner T ⟨12, nm, con, fa, fl, fc, la, ll, lc, ra, rl, rc⟩ K _ ((HT.out.gs GW.out).weak (LowS_le base)) (by have := HKL.out; omega)).mono ?_; rintro e w6 ⟨ad2, c2, rfl, htab, hk2⟩; rw [HKL.out]; clear htab))
  refine wp_loop_rounds 1 ?_
  rw [rounds_succ]
  go_wp2_with fail
  go_ret
  exact ⟨_, rfl, by rw [HE.out]; exact (rowS_push ho1).keep hk2, GW.out.trans hk2.gs⟩
theorem c_Holes (base : Nat) : ∀ (r R : Nat) (T : Ty) (h : Hd) (w : World) (v : Value) (L : List ByteArray), Lies w (LowS base) R T h → (look r T).2.2 = true → rowS w base v L → L.length + HB r ≤ 8796093022208 → base ≤ w.heap.size →
    Calls Try.prog 19 #[h.val, v] w fun e w' => ∃ v', e = .returned v' ∧ rowS w' base v' (holes r T L) ∧ Gs base (fun _ => False) w w' := by
  intro r
  induction r with
  | zero => intro R T h w v L _ hs; rw [look_zero] at hs; cases hs
  | succ r ih =>
    intro R T h w v L hl hs hr hL hb
    cases R with
    | zero => exact hl.elim
    | succ R =>
      obtain ⟨K, t, hh⟩ := hl
      by_cases hk : h.k = 12
      · have hf := t.fmT.trans (look_parts hs).1
        cases h2 : hasB L h.nm with
        | true => exact holes_has r base T h K w v L t hk (fm_12 hf hk) h2 hr hL
        | false => exact holes_new r base T h K w v L t hk (fm_12 hf hk) h2 hr hL hb
      · exact holes_other r R base T h K w v L t hh hs hk hr hL hb (fun X hx W v L a b c d e => ih R X hx W v L a b c d e)
/-- From no name on. -/
theorem c_Holes0 (R : Nat) (T : Ty) (h : Hd) (w : World) (hl : Lies w A0 R T h) (hs : (look 9 T).2.2 = true) :
    Calls Try.prog 19 #[h.val, .slice none 0 0] w fun e w' => ∃ v', e = .returned v' ∧ rowS w' w.heap.size v' (holes 9 T []) ∧ Kp w w' :=
  (c_Holes w.heap.size 9 R T h w _ [] (lowS_of hl (Nat.le_refl _)) hs (rowS_nil _ _) (by have := HB_9; simpa using this) (Nat.le_refl _)).mono fun e w' ⟨v', h1, h2, h3⟩ => ⟨v', h1, h2, h3.kp (Kp.refl w) (Nat.le_refl _)⟩
end Go.Proofs.Ytfjflfokmihcpaa
