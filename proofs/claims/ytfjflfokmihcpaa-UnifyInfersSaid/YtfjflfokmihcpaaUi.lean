/- solve of package unify: what it answers. Condition: the names and the types lie in memory. -/
import Derived.Test.YtfjflfokmihcpaaUg
import Derived.Test.YtfjflfokmihcpaaUh
import Derived.Test.YtfjflfokmihcpaaCf
import Derived.Test.YtfjflfokmihcpaaFh
namespace Go.Proofs.Ytfjflfokmihcpaa
open Go.RowKit
set_option linter.unusedVariables false
set_option linter.unusedSimpArgs false
theorem lies_look {w : World} {B : Sel} : ∀ {r R : Nat} {T : Ty} {h : Hd}, (look r T).2.2 = true → Lies w B R T h → Lies w B r T h
  | 0, _, _, _, hs, _ => by rw [look_zero] at hs; cases hs
  | r + 1, 0, _, _, _, hl => hl.elim
  | r + 1, R + 1, _, _, hs, ⟨K, t, hh⟩ => ⟨K, t, fun i X hX => lies_look ((look_parts hs).2 i X hX) (hh i X hX)⟩
/-- Nothing is known. -/
def σ0 : St := fun _ => none
/-- The number of the first pair that does not match. -/
def firstNo (f : St → Ty → Ty → Option St) : St → List Ty → List Ty → Nat
  | σ, A :: us, B :: vs => match f σ A B with | none => 0 | some σ' => firstNo f σ' us vs + 1
  | _, _, _ => 0
theorem firstNo_at {f : St → Ty → Ty → Option St} : ∀ {n : Nat} {σ σ' : St} {us vs : List Ty} {A B : Ty}, walkK f σ (us.take n) (vs.take n) = some σ' → us[n]? = some A → vs[n]? = some B → f σ' A B = none → firstNo f σ us vs = n
  | 0, σ, σ', A :: us, B :: vs, _, _, hw, ha, hb, hf => by
    simp at ha hb
    subst ha hb
    have e : σ = σ' := by simpa [walkK] using hw
    subst e
    rw [firstNo, hf]
  | n + 1, σ, σ', A :: us, B :: vs, _, _, hw, ha, hb, hf => by
    rw [List.take_succ_cons, List.take_succ_cons, walkK] at hw
    rw [firstNo]
    cases hc : f σ A B with
    | none => rw [hc] at hw; cases hw
    | some σ2 =>
      rw [hc] at hw
      exact congrArg (· + 1) (firstNo_at (n := n) hw (by simpa using ha) (by simpa using hb) hf)
  | _, _, _, [], _, _, _, _, ha, _, _ => by simp at ha
  | _, _, _, _ :: _, [], _, _, _, _, hb, _ => by simp at hb
/-- What is found, if all match. -/
noncomputable def found (L : List ByteArray) (As Bs : List Ty) : Option St := walkK (mtch L 9) σ0 As Bs
/-- OK, ErrForm, ErrArg, ErrType. -/
noncomputable def uE (L : List ByteArray) (As Bs : List Ty) : Int :=
  if (allS As && allS Bs) = true then (if @decide (L.Nodup ∧ As.length = Bs.length) (Classical.propDecidable _) = true then (if (found L As Bs).isSome = true then 0 else 9) else 2) else 1
theorem uE_form {L : List ByteArray} {As Bs : List Ty} (h : (allS As && allS Bs) = false) : uE L As Bs = 1 := by unfold uE; rw [h]; rfl
theorem uE_arg {L : List ByteArray} {As Bs : List Ty} (h : (allS As && allS Bs) = true) (hn : ¬ (L.Nodup ∧ As.length = Bs.length)) : uE L As Bs = 2 := by unfold uE; rw [if_pos h, @decide_eq_false _ (Classical.propDecidable _) hn]; rfl
theorem uE_type {L : List ByteArray} {As Bs : List Ty} (h : (allS As && allS Bs) = true) (hn : L.Nodup ∧ As.length = Bs.length) (hf : found L As Bs = none) : uE L As Bs = 9 := by unfold uE; rw [if_pos h, @decide_eq_true _ (Classical.propDecidable _) hn, if_pos rfl, hf]; rfl
theorem uE_ok {L : List ByteArray} {As Bs : List Ty} (h : (allS As && allS Bs) = true) (hn : L.Nodup ∧ As.length = Bs.length) {σ : St} (hf : found L As Bs = some σ) : uE L As Bs = 0 := by unfold uE; rw [if_pos h, @decide_eq_true _ (Classical.propDecidable _) hn, if_pos rfl, hf]; rfl
/-- Which pair is at fault. -/
noncomputable def uAt (L : List ByteArray) (As Bs : List Ty) : Nat := if uE L As Bs = 9 then firstNo (mtch L 9) σ0 As Bs else 0
/-- What the names stand for in the end. -/
noncomputable def uArgs (L : List ByteArray) (As Bs : List Ty) : List Ty := L.map fun s => (((found L As Bs).getD σ0) s).getD tzC
theorem uArgs_at {L : List ByteArray} {As Bs : List Ty} {σ : St} (hf : found L As Bs = some σ) : uArgs L As Bs = L.map fun s => (σ s).getD tzC := by unfold uArgs; rw [hf]; rfl
/-- What solve answers. -/
noncomputable def SolveP (L : List ByteArray) (As Bs : List Ty) (w : World) (e : Ending) (w' : World) : Prop :=
  ∃ ad n c K, e = .returned (.tuple #[.slice ad n c, .int .i64 (uAt L As Bs : Nat), .int .i64 (uE L As Bs)]) ∧ Kp w w' ∧ (uE L As Bs ≠ 0 → n = 0 ∧ ad = none ∧ c = 0) ∧ (uE L As Bs = 0 → n = L.length ∧ LiesAll w' (From w.heap.size) 9 (uArgs L As Bs) ad c K)
theorem solve_bad {L : List ByteArray} {As Bs : List Ty} {w w' : World} {q : Int} {m : Nat} (h : uE L As Bs = q) (hq : q ≠ 0) (hm : uAt L As Bs = m) (hk : Kp w w') : SolveP L As Bs w (.returned (.tuple #[.slice none 0 0, .int .i64 (m : Nat), .int .i64 q])) w' :=
  ⟨none, 0, 0, fun _ => hd0, by rw [h, hm], hk, fun _ => ⟨rfl, rfl, rfl⟩, fun e => absurd (h.symm.trans e) hq⟩
/-- The map with nothing known of the first n names. -/
noncomputable def fZ (L : List ByteArray) (n : Nat) (s : ByteArray) : Option Value := if @decide (s ∈ L.take n) (Classical.propDecidable _) = true then some hd0.val else none
theorem fZ_in {L : List ByteArray} {n : Nat} {s : ByteArray} (h : s ∈ L.take n) : fZ L n s = some hd0.val := by unfold fZ; rw [@decide_eq_true _ (Classical.propDecidable _) h, if_pos rfl]
theorem fZ_out {L : List ByteArray} {n : Nat} {s : ByteArray} (h : s ∉ L.take n) : fZ L n s = none := by unfold fZ; rw [@decide_eq_false _ (Classical.propDecidable _) h]; rfl
theorem fZ_0 (L : List ByteArray) : fZ L 0 = fun _ => none := by funext s; exact fZ_out (by simp)
theorem take_sn {L : List ByteArray} {n : Nat} {s : ByteArray} (hn : n < L.length) (hs : L.getD n ByteArray.empty = s) : L.take (n + 1) = L.take n ++ [s] := by
  rw [List.take_succ_eq_append_getElem hn, ← hs, List.getD_eq_getElem?_getD, List.getElem?_eq_getElem hn]
  rfl
theorem fZ_succ {L : List ByteArray} {n : Nat} {s : ByteArray} (hn : n < L.length) (hs : L.getD n ByteArray.empty = s) : fput (fZ L n) s hd0.val = fZ L (n + 1) := by
  funext y
  have e := take_sn hn hs
  by_cases hy : y = s
  · subst hy
    rw [fput_same, fZ_in (by rw [e]; simp)]
  · rw [fput_other _ _ hy]
    by_cases hm : y ∈ L.take n
    · rw [fZ_in hm, fZ_in (by rw [e]; simp [hm])]
    · rw [fZ_out hm, fZ_out (by rw [e]; simp [hm, hy])]
/-- How many names so far. -/
def cnt (L : List ByteArray) (n m : Nat) : Prop := m ≤ n ∧ ((L.take n).Nodup → m = n) ∧ (¬ (L.take n).Nodup → m < n)
theorem cnt_succ {L : List ByteArray} {n m : Nat} {s : ByteArray} (hn : n < L.length) (hs : L.getD n ByteArray.empty = s) (h : cnt L n m) : cnt L (n + 1) (if (fZ L n s).isSome = true then m else m + 1) := by
  have e := take_sn hn hs
  have nd : (L.take (n + 1)).Nodup ↔ (L.take n).Nodup ∧ s ∉ L.take n := by
    rw [e, List.nodup_append]
    constructor
    · rintro ⟨h1, _, h3⟩
      exact ⟨h1, fun hm => h3 s hm s (by simp) rfl⟩
    · rintro ⟨h1, h2⟩
      exact ⟨h1, by simp, fun a ha b hb => by simp at hb; subst hb; exact fun e => h2 (e ▸ ha)⟩
  obtain ⟨h1, h2, h3⟩ := h
  by_cases hm : s ∈ L.take n
  · rw [fZ_in hm]
    simp only [Option.isSome_some, if_true]
    exact ⟨by omega, fun h => absurd hm (nd.1 h).2, fun _ => by omega⟩
  · rw [fZ_out hm]
    simp only [Option.isSome_none, Bool.false_eq_true, if_false]
    exact ⟨by omega, fun h => by have := h2 (nd.1 h).1; omega, fun h => by have := h3 (fun q => h (nd.2 ⟨q, hm⟩)); omega⟩
theorem stM_start {bm m : Nat} {L : List ByteArray} {w : World} (h : MapSz w Try.prog 9 bm m (fZ L L.length)) (hm : m ≤ L.length) : StM bm L σ0 w := by
  refine ⟨_, m, h.is, by omega, fun s => ⟨fun hs => fZ_out (by rwa [List.take_length]), fun hs => ⟨hd0, fZ_in (by rwa [List.take_length]), .inl ⟨rfl, rfl⟩⟩⟩⟩
set_option maxHeartbeats 3200000 in
theorem solve_form (L : List ByteArray) (na : Option Addr) (nc : Nat) (S : Sel) (R R' : Nat) (As Bs : List Ty) (aa : Option Addr) (ac : Nat) (ba : Option Addr) (bc : Nat) (K J : Nat → Hd) (w : World)
    (ht : tab w S 9 na L.length nc 1 (fun i => [.string (L.getD i ByteArray.empty)])) (hL : ∀ s, s ∈ L → s.size ≤ 140737488351232) (hlL : L.length * 16 ≤ 140737488351232)
    (hA : LiesAll w A0 R As aa ac K) (hlA : As.length * 104 ≤ 140737488351232) (hB : LiesAll w A0 R' Bs ba bc J) (hlB : Bs.length * 104 ≤ 140737488351232) (hno : (allS As && allS Bs) = false) :
    Calls Try.prog 22 #[.slice na L.length nc, .slice aa As.length ac, .slice ba Bs.length bc] w (SolveP L As Bs w) := by
  have HT := Lib.hid ht
  have HL := Lib.hid hL
  have HA := Lib.hid hA
  have HB := Lib.hid hB
  have hmm := @run_makeMap Try.prog
  have CA := Lib.hid (fun W (k : Kp w W) => c_areSound R As aa ac K W (hA.keep k) hlA)
  have CB := Lib.hid (fun W (k : Kp w W) => c_areSound R' Bs ba bc J W (hB.keep k) hlB)
  clear ht hL hA hB
  have HE := Lib.hid (uE_form (L := L) hno)
  have HAT := Lib.hid (show uAt L As Bs = 0 by unfold uAt; rw [HE.out]; rfl)
  cases s1 : allS As with
  | false =>
    clear hno
    go_enter Try.func22, Try.ntmps22
    go_wp2_with (first | (go_at_call 36; (with_reducible refine (CA.out _ (Kp.refl w)).mono ?_); rintro e w2 ⟨rfl, hk2⟩; rw [s1]; have K2 := Lib.hid hk2; clear hk2))
    refine bodyPost_ret (v := .tuple #[.slice none 0 0, .int .i64 0, .int .i64 1]) (by simp [results, Try.results22, go_sem]) rfl ?_
    exact solve_bad HE.out (by decide) HAT.out K2.out
  | true =>
    have s2 : allS Bs = false := by rw [s1] at hno; exact hno
    clear hno
    go_enter Try.func22, Try.ntmps22
    go_wp2_with (first | (go_at_call 36; (with_reducible refine (CA.out _ (Kp.refl w)).mono ?_); rintro e w2 ⟨rfl, hk2⟩; rw [s1]; have K2 := Lib.hid hk2; clear hk2) | (go_at_call 36; (with_reducible refine (CB.out _ K2.out).mono ?_); rintro e w3 ⟨rfl, hk3⟩; rw [s2]; have K3 := Lib.hid (K2.out.trans hk3); clear hk3))
    refine bodyPost_ret (v := .tuple #[.slice none 0 0, .int .i64 0, .int .i64 1]) (by simp [results, Try.results22, go_sem]) rfl ?_
    exact solve_bad HE.out (by decide) HAT.out K3.out
set_option maxHeartbeats 6400000 in
set_option maxRecDepth 100000 in
theorem solve_arg (L : List ByteArray) (na : Option Addr) (nc : Nat) (S : Sel) (R R' : Nat) (As Bs : List Ty) (aa : Option Addr) (ac : Nat) (ba : Option Addr) (bc : Nat) (K J : Nat → Hd) (w : World)
    (ht : tab w S 9 na L.length nc 1 (fun i => [.string (L.getD i ByteArray.empty)])) (hL : ∀ s, s ∈ L → s.size ≤ 140737488351232) (hlL : L.length * 16 ≤ 140737488351232)
    (hA : LiesAll w A0 R As aa ac K) (hlA : As.length * 104 ≤ 140737488351232) (hB : LiesAll w A0 R' Bs ba bc J) (hlB : Bs.length * 104 ≤ 140737488351232) (hyes : (allS As && allS Bs) = true) (hno : ¬ (L.Nodup ∧ As.length = Bs.length)) :
    Calls Try.prog 22 #[.slice na L.length nc, .slice aa As.length ac, .slice ba Bs.length bc] w (SolveP L As Bs w) := by
  have HT := Lib.hid ht
  have HL := Lib.hid hL
  have HA := Lib.hid hA
  have HB := Lib.hid hB
  have hmm := @run_makeMap Try.prog
  have CA := Lib.hid (fun W (k : Kp w W) => c_areSound R As aa ac K W (hA.keep k) hlA)
  have CB := Lib.hid (fun W (k : Kp w W) => c_areSound R' Bs ba bc J W (hB.keep k) hlB)
  clear ht hL hA hB
  have HE := Lib.hid (uE_arg (L := L) hyes hno)
  have HAT := Lib.hid (show uAt L As Bs = 0 by unfold uAt; rw [HE.out]; rfl)
  have s1 : allS As = true := (Bool.and_eq_true_iff.1 hyes).1
  have s2 : allS Bs = true := (Bool.and_eq_true_iff.1 hyes).2
  have HNO := Lib.hid hno
  clear hno hyes
  go_enter Try.func22, Try.ntmps22
  go_wp2_with (first | (go_at_call 36; (with_reducible refine (CA.out _ (Kp.refl w)).mono ?_); rintro e w2 ⟨rfl, hk2⟩; rw [s1]; have K2 := Lib.hid hk2; clear hk2) | (go_at_call 36; (with_reducible refine (CB.out _ K2.out).mono ?_); rintro e w3 ⟨rfl, hk3⟩; rw [s2]; have K3 := Lib.hid (K2.out.trans hk3); clear hk3))
  have HSZ0 := Lib.hid (mapSz_made w3 Try.prog 9)
  have hb3 : w.heap.size ≤ w3.heap.size := K3.out.sz
  go_loopw [30] (fun i wr => ∃ n : Nat, n ≤ L.length ∧ i = .int .i64 n ∧ Kp w3 wr ∧ ∃ m, MapSz wr Try.prog 9 w3.heap.size m (fZ L n) ∧ cnt L n m) (fun i _ => L.length - (intOf i).toNat)
  case atStart => exact ⟨0, by omega, rfl, (Kp.refl _).alloc _, 0, by rw [fZ_0]; exact HSZ0.out, ⟨by omega, fun _ => rfl, fun h => absurd (by simp) h⟩⟩
  case round =>
    obtain ⟨n, hn, rfl, hkr, m, hm, hc⟩ := hrel
    have HKR := Lib.hid hkr
    have HM := Lib.hid hm
    have HC := Lib.hid hc
    have hbm : w3.heap.size < wr.heap.size := hm.is.lt
    have KWR := Lib.hid (K3.out.trans hkr)
    clear hkr hm hc
    by_cases hlt : n < L.length
    · obtain ⟨b, o, ha, hr⟩ := (HT.out.keep KWR.out).at (by omega)
      subst ha
      obtain ⟨sn, hsn⟩ : ∃ sn, L.getD n ByteArray.empty = sn := ⟨_, rfl⟩
      have x0 : wr.cell? ⟨b, o + n * 1, none⟩ = some (.string sn) := by have := hr n hlt 0 _ rfl; rw [hsn] at this; exact this
      rw [Nat.mul_one] at x0
      have HSN := Lib.hid hsn
      have HSS := Lib.hid (show sn.size ≤ maxLen by
        have hmem : sn ∈ L := by rw [← hsn, List.getD_eq_getElem?_getD, List.getElem?_eq_getElem hlt]; exact List.getElem_mem _
        have := HL.out sn hmem
        unfold maxLen
        omega)
      clear hr hsn
      have hnm : m < maxLen := by have := HC.out.1; unfold maxLen; omega
      have j1 : (0 : Int) ≤ n := by omega
      have j2 : (n : Int) < L.length := by omega
      go_wp2_with (first | (at_mapUpdate; refine wpList_map_setZ _ _ _ 66 9 42 rfl Try.underlying9 Try.underlying66 w3.heap.size m _ (by rfl) HM.out hnm sn (by rfl) HSS.out hd0.val (by rfl) ?_; intro w4 hm4 hg4))
      go_roundw
      case rel => exact ⟨n + 1, by omega, by go_num, HKR.out.grown hg4 (fun k hk => by cases hk; exact Nat.le_refl _), _, by rw [← fZ_succ hlt HSN.out]; exact hm4, cnt_succ hlt HSN.out HC.out⟩
      case measure => simp [intOf]; omega
    · obtain rfl : n = L.length := by omega
      have hz : ¬ ((L.length : Int) < (L.length : Int)) := by omega
      have hlen := fun ty => HM.out.len (t := 66) (e := 42) Try.underlying66 ty
      by_cases hnd : L.Nodup
      · have hml : m = L.length := HC.out.2.1 (by rwa [List.take_length])
        have d1 : ((m : Int) < (L.length : Int)) = False := by simp; omega
        have hne : As.length ≠ Bs.length := fun e => HNO.out ⟨hnd, e⟩
        have d2 : ((As.length : Int) != (Bs.length : Int)) = true := bne_iff_ne.2 (by omega)
        have d3 : ¬ ((m : Int) < (L.length : Int)) := by omega
        clear hnd hml hne d1
        go_wp2_with fail
        refine bodyPost_ret (v := .tuple #[.slice none 0 0, .int .i64 0, .int .i64 2]) (by simp [results, Try.results22, go_sem]) rfl ?_
        exact solve_bad HE.out (by decide) HAT.out KWR.out
      · have hml : m < L.length := HC.out.2.2 (by rwa [List.take_length])
        have d3 : (m : Int) < (L.length : Int) := by omega
        clear hnd hml
        go_wp2_with fail
        refine bodyPost_ret (v := .tuple #[.slice none 0 0, .int .i64 0, .int .i64 2]) (by simp [results, Try.results22, go_sem]) rfl ?_
        exact solve_bad HE.out (by decide) HAT.out KWR.out
end Go.Proofs.Ytfjflfokmihcpaa
