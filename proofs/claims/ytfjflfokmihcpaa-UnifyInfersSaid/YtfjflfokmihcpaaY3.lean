/- namesOf and Infer of package unify: what they answer. Condition: the types lie in memory. Infer of package unify: what it answers. Condition: the types lie in memory. Infer of the reference: what it answers; the walk of UnifyInfers. Condition: the types lie in memory. -/
import Derived.Test.YtfjflfokmihcpaaY2
import Derived.Test.YtfjflfokmihcpaaZ
namespace Go.Proofs.Ytfjflfokmihcpaa
open Go.RowKit
set_option linter.unusedVariables false
set_option linter.unusedSimpArgs false
/-- Sound parameters, and nothing else. -/
noncomputable def pOk (Ps : List Ty) : Bool := Ps.all fun T => (T.k == 12) && (look 9 T).2.2
theorem pOk_no {Ps : List Ty} {n : Nat} {X : Ty} (hX : Ps[n]? = some X) (h : X.k ≠ 12 ∨ (look 9 X).2.2 = false) : pOk Ps = false := by
  apply Bool.eq_false_iff.2
  intro ha
  have h1 := List.all_eq_true.1 ha X (List.mem_of_getElem? hX)
  rw [Bool.and_eq_true_iff] at h1
  rcases h with h | h
  · exact h (by simpa using h1.1)
  · rw [h] at h1; exact absurd h1.2 (by decide)
theorem pOk_at {Ps : List Ty} (h : pOk Ps = true) {n : Nat} {X : Ty} (hX : Ps[n]? = some X) : X.k = 12 ∧ (look 9 X).2.2 = true := by
  have h1 := List.all_eq_true.1 h X (List.mem_of_getElem? hX)
  rw [Bool.and_eq_true_iff] at h1
  exact ⟨by simpa using h1.1, h1.2⟩
theorem pOk_yes {Ps : List Ty} (h : ∀ (j : Nat) (X : Ty), j < Ps.length → Ps[j]? = some X → X.k = 12 ∧ (look 9 X).2.2 = true) : pOk Ps = true := List.all_eq_true.2 (fun X hX => by
  obtain ⟨j, hj, e⟩ := List.mem_iff_getElem.1 hX
  have := h j X hj (by rw [List.getElem?_eq_getElem hj, e])
  rw [this.1, this.2]
  rfl)
/-- The names of the first n. -/
def nmL (Ps : List Ty) (n : Nat) : List ByteArray := (Ps.map Ty.nm).take n
theorem nmL_len {Ps : List Ty} {n : Nat} (h : n ≤ Ps.length) : (nmL Ps n).length = n := by simp [nmL]; omega
theorem nmL_succ {Ps : List Ty} {n : Nat} {X : Ty} (hX : Ps[n]? = some X) : nmL Ps (n + 1) = nmL Ps n ++ [X.nm] := by
  unfold nmL
  rw [List.take_add_one, List.getElem?_map, hX]
  rfl
theorem nmL_all (Ps : List Ty) : nmL Ps Ps.length = Ps.map Ty.nm := by unfold nmL; rw [List.take_of_length_le (by simp)]
theorem con_12 {T : Ty} (h : (look 9 T).2.2 = true) (hk : T.k = 12) : 1 ≤ T.con ∧ T.con ≤ 3 := by
  have hf := (look_parts h).1
  have h1 : fm (hdOf T) T.fn = true := hf
  have hk' : (hdOf T).k = 12 := hk
  simp [fm, hk', bareB] at h1
  have hc : (hdOf T).con = T.con := rfl
  omega
theorem lies_nm {w : World} {B : Sel} {r : Nat} {T : Ty} {h : Hd} (hl : Lies w B r T h) : h.nm = T.nm := by
  cases r with
  | zero => exact hl.elim
  | succ r => obtain ⟨K, t, _⟩ := hl; exact t.en.symm
theorem lies_con {w : World} {B : Sel} {r : Nat} {T : Ty} {h : Hd} (hl : Lies w B r T h) : h.con = T.con := by
  cases r with
  | zero => exact hl.elim
  | succ r => obtain ⟨K, t, _⟩ := hl; exact t.ec.symm
def NamesP (Ps : List Ty) (w : World) (e : Ending) (w' : World) : Prop :=
  Kp w w' ∧ ((pOk Ps = false ∧ e = .returned (.tuple #[.slice none 0 0, .int .i64 1])) ∨ (pOk Ps = true ∧ ∃ na nc, e = .returned (.tuple #[.slice na Ps.length nc, .int .i64 0]) ∧ Ps.length ≤ nc ∧ tab w' (From w.heap.size) 9 na Ps.length nc 1 (fun i => [.string ((Ps.map Ty.nm).getD i ByteArray.empty)])))
set_option maxHeartbeats 6400000 in
set_option maxRecDepth 100000 in
theorem c_namesOf (R : Nat) (Ps : List Ty) (pa : Option Addr) (pc : Nat) (K : Nat → Hd) (w : World) (hP : LiesAll w A0 R Ps pa pc K) (hlP : Ps.length * 104 ≤ 140737488351232) :
    Calls Try.prog 26 #[.slice pa Ps.length pc] w (NamesP Ps w) := by
  obtain ⟨i2, hs, hx0, hx1, hx2⟩ := info_parts infoS
  have HP := Lib.hid hP
  clear hP
  go_enter Try.func26, Try.ntmps26
  go_wp2_with fail
  go_loopw [4, 9] (fun u i wr => ∃ n : Nat, n ≤ Ps.length ∧ i = .int .i64 n ∧ (∀ (j : Nat) (X : Ty), j < n → Ps[j]? = some X → X.k = 12 ∧ (look 9 X).2.2 = true) ∧ wr.ownsRow w.heap.size 9 1 u n ((nmL Ps n).map Value.string) ∧ Kp w wr) (fun _ i _ => Ps.length - (intOf i).toNat)
  case atStart => exact ⟨0, Nat.zero_le _, rfl, fun j X hj => absurd hj (by omega), by simpa [nmL] using World.ownsRow_nil _ _ _ _, Kp.refl _⟩
  case round =>
    obtain ⟨n, hn, rfl, hok, hu, hkr⟩ := hrel
    have HOK := Lib.hid hok
    have HU := Lib.hid hu
    have HKR := Lib.hid hkr
    have hzr : w.heap.size ≤ wr.heap.size := hkr.sz
    clear hok hu hkr
    by_cases hlt : n < Ps.length
    · obtain ⟨b, o, ha, hr⟩ := HP.out.1.at (by omega)
      have HAA := Lib.hid ha
      have HR := Lib.hid (hr n hlt)
      clear ha hr
      obtain ⟨X, hX⟩ : ∃ X, Ps[n]? = some X := ⟨_, List.getElem?_eq_getElem hlt⟩
      have HX := Lib.hid hX
      have hkk : (K n).k = X.k := lies_k (HP.out.2 n X hX)
      have hnn : (K n).nm = X.nm := lies_nm (HP.out.2 n X hX)
      have CC := Lib.hid (fun W (k : Kp w W) => c_Check R X (K n) W ((HP.out.2 n X HX.out).keep k))
      clear hX
      by_cases h12 : X.k = 12
      case neg =>
        have HE := Lib.hid (pOk_no HX.out (.inl h12))
        have hb : ((K n).k != 12) = true := bne_iff_ne.2 (by omega)
        clear hkk hnn h12
        go_wp2_with (first | ((with_reducible show wpList _ _ _ (⟨some 11, _, _, _, _, _⟩ :: _) _ _); refine wpList_index_tab (d := 11) _ _ _ rfl 42 Try.underlying23 6 rfl _ _ _ _ o (by rfl) HAA.out n (by rfl) hlt ?_) | ((with_reducible show wpList _ _ _ (⟨some 12, _, _, _, _, _⟩ :: _) _ _); refine wpList_load_ty (d := 12) _ _ rfl _ Try.underlying42 w _ _ b (o + n * 6) (by rfl) rfl (by first | rfl | omega) (K n) HR.out HKR.out rfl ?_))
        refine bodyPost_ret (v := .tuple #[.slice none 0 0, .int .i64 1]) (by simp [results, Try.results26, go_sem]) rfl ?_
        exact ⟨HKR.out.alloc _, .inl ⟨HE.out, rfl⟩⟩
      have hb : ((K n).k != 12) = false := by rw [hkk, h12]; rfl
      cases hsd : (look 9 X).2.2 with
      | false =>
        have HE := Lib.hid (pOk_no HX.out (.inr hsd))
        have HS := Lib.hid (show ef (look 9 X).2.2 = 1 by rw [hsd]; rfl)
        clear hkk hnn h12 hsd
        go_wp2_with (first | ((with_reducible show wpList _ _ _ (⟨some 11, _, _, _, _, _⟩ :: _) _ _); refine wpList_index_tab (d := 11) _ _ _ rfl 42 Try.underlying23 6 rfl _ _ _ _ o (by rfl) HAA.out n (by rfl) hlt ?_) | ((with_reducible show wpList _ _ _ (⟨some 12, _, _, _, _, _⟩ :: _) _ _); refine wpList_load_ty (d := 12) _ _ rfl _ Try.underlying42 w _ _ b (o + n * 6) (by rfl) rfl (by first | rfl | omega) (K n) HR.out HKR.out rfl ?_) | (go_at_call 29; refine (CC.out _ (HKR.out.alloc _)).mono ?_; rintro e w6 ⟨rfl, hk6⟩; rw [HS.out]))
        refine bodyPost_ret (v := .tuple #[.slice none 0 0, .int .i64 1]) (by simp [results, Try.results26, go_sem]) rfl ?_
        exact ⟨(HKR.out.alloc _).trans hk6, .inl ⟨HE.out, rfl⟩⟩
      | true =>
        have HS := Lib.hid (show ef (look 9 X).2.2 = 0 by rw [hsd]; rfl)
        have HG := Lib.hid (show X.k = 12 ∧ (look 9 X).2.2 = true from ⟨h12, hsd⟩)
        have HNN := Lib.hid hnn
        clear hkk hnn h12 hsd
        go_wp2_with (first | ((with_reducible show wpList _ _ _ (⟨some 11, _, _, _, _, _⟩ :: _) _ _); refine wpList_index_tab (d := 11) _ _ _ rfl 42 Try.underlying23 6 rfl _ _ _ _ o (by rfl) HAA.out n (by rfl) hlt ?_) | ((with_reducible show wpList _ _ _ (⟨some 12, _, _, _, _, _⟩ :: _) _ _); refine wpList_load_ty (d := 12) _ _ rfl _ Try.underlying42 w _ _ b (o + n * 6) (by rfl) rfl (by first | rfl | omega) (K n) HR.out HKR.out rfl ?_) | (go_at_call 29; refine (CC.out _ (HKR.out.alloc _)).mono ?_; rintro e w6 ⟨rfl, hk6⟩; rw [HS.out]; have K6 := Lib.hid ((HKR.out.alloc _).trans hk6); have J6 := Lib.hid (((Kp.refl wr).alloc _).trans hk6); obtain ⟨q0, q1, q2, q3, q4, q5, qs⟩ := boxed (h := K n) hk6; have ql : wr.heap.size < w6.heap.size := qs; have hz6 : w.heap.size ≤ w6.heap.size := by omega) | ((with_reducible show wpList _ _ _ (⟨some 25, _, _, _, _, _⟩ :: _) _ _); refine wpList_append_one (d := 25) _ _ 22 rfl w.heap.size 9 i2 _ 1 16 Try.underlying22 hs hx0 hx1 hx2 rfl (by decide) _ n _ (by rfl) _ (own_keep HU.out J6.out) [.string (K n).nm] _ _ _ (by rfl) (by first | rfl | simp) (by rfl) (by rfl) (by intro u hu; simp at hu; subst hu; rfl) (by unfold maxLen; omega) (by omega) (by omega) ?_; intro v1 w8 ho8 hg8; have HO8 := Lib.hid ho8; have HG8 := Lib.hid hg8; clear ho8 hg8))
        go_roundw
        case rel => exact ⟨n + 1, by omega, by go_num, fun j Y hj hY => by
          by_cases e : j = n
          · subst e; rw [HX.out] at hY; cases hY; exact HG.out
          · exact HOK.out j Y (by omega) hY, by rw [nmL_succ HX.out, List.map_append, ← HNN.out]; exact HO8.out, (K6.out.alloc _).grown HG8.out (fun k hk => (HU.out.lt k hk).1)⟩
        case measure => simp [intOf]; omega
    · obtain rfl : n = Ps.length := by omega
      have hz : ¬ ((Ps.length : Int) < (Ps.length : Int)) := by omega
      have HE := Lib.hid (pOk_yes HOK.out)
      obtain ⟨na, nc, hv, hle, ht⟩ := (show rowS wr w.heap.size u4 (nmL Ps Ps.length) from by
        have h1 := HU.out
        unfold rowS
        rw [nmL_len (Nat.le_refl _)]
        exact h1).tab
      subst hv
      rw [nmL_len (Nat.le_refl _)] at ht hle
      rw [nmL_all] at ht
      have HT := Lib.hid ht
      clear ht
      rw [nmL_len (Nat.le_refl _)]
      go_wp2_with fail
      refine bodyPost_ret (v := .tuple #[.slice na Ps.length nc, .int .i64 0]) (by simp [results, Try.results26, go_sem]) rfl ?_
      exact ⟨HKR.out, .inr ⟨HE.out, na, nc, rfl, hle, HT.out⟩⟩
def zk (Zs : List Ty) (i : Nat) : Int := (Zs.getD i tzC).k
noncomputable def zf (Zs Ps : List Ty) (i : Nat) : Bool := fitB (Zs.getD i tzC) (Ps.getD i tzC).con
/-- What Infer answers: an error, the number of what is at fault, the arguments. -/
def InfV (Ps As Bs : List Ty) (q : Int) (m : Nat) (r : List Ty) : Prop :=
  (pOk Ps = false ∧ q = 1 ∧ m = 0 ∧ r = []) ∨
  (pOk Ps = true ∧ uE (Ps.map Ty.nm) As Bs ≠ 0 ∧ q = uE (Ps.map Ty.nm) As Bs ∧ m = uAt (Ps.map Ty.nm) As Bs ∧ r = []) ∨
  (pOk Ps = true ∧ uE (Ps.map Ty.nm) As Bs = 0 ∧ q = 12 ∧ r = [] ∧ m < Ps.length ∧ zk (uArgs (Ps.map Ty.nm) As Bs) m = 0 ∧ ∀ j, j < m → zk (uArgs (Ps.map Ty.nm) As Bs) j ≠ 0) ∨
  (pOk Ps = true ∧ uE (Ps.map Ty.nm) As Bs = 0 ∧ q = 9 ∧ r = [] ∧ (∀ j, j < Ps.length → zk (uArgs (Ps.map Ty.nm) As Bs) j ≠ 0) ∧ ∃ i, m = As.length + i ∧ i < Ps.length ∧ zf (uArgs (Ps.map Ty.nm) As Bs) Ps i = false ∧ ∀ j, j < i → zf (uArgs (Ps.map Ty.nm) As Bs) Ps j = true) ∨
  (pOk Ps = true ∧ uE (Ps.map Ty.nm) As Bs = 0 ∧ q = 0 ∧ m = 0 ∧ r = uArgs (Ps.map Ty.nm) As Bs ∧ (∀ j, j < Ps.length → zk (uArgs (Ps.map Ty.nm) As Bs) j ≠ 0) ∧ ∀ j, j < Ps.length → zf (uArgs (Ps.map Ty.nm) As Bs) Ps j = true)
theorem InfV.one {Ps As Bs : List Ty} {q q' : Int} {m m' : Nat} {r r' : List Ty} (h : InfV Ps As Bs q m r) (h' : InfV Ps As Bs q' m' r') : q' = q ∧ m' = m ∧ r' = r := by
  rcases h with ⟨a, rfl, rfl, rfl⟩ | ⟨a, b, rfl, rfl, rfl⟩ | ⟨a, b, rfl, rfl, c, d, e⟩ | ⟨a, b, rfl, rfl, c, i, rfl, d, e, f⟩ | ⟨a, b, rfl, rfl, rfl, c, d⟩ <;>
  rcases h' with ⟨a', rfl, rfl, rfl⟩ | ⟨a', b', rfl, rfl, rfl⟩ | ⟨a', b', rfl, rfl, c', d', e'⟩ | ⟨a', b', rfl, rfl, c', i', rfl, d', e', f'⟩ | ⟨a', b', rfl, rfl, rfl, c', d'⟩ <;>
  first
  | exact ⟨rfl, rfl, rfl⟩
  | (rw [a] at a'; exact absurd a' (by decide))
  | exact absurd b b'
  | exact absurd b' b
  | exact absurd d (c' _ c)
  | exact absurd d' (c _ c')
  | (refine ⟨rfl, ?_, rfl⟩; rcases Nat.lt_trichotomy m m' with h | h | h; exact absurd d (e' _ h); exact h.symm; exact absurd d' (e _ h))
  | (refine ⟨rfl, ?_, rfl⟩; rcases Nat.lt_trichotomy i i' with h | h | h; (have := f' _ h; rw [e] at this; exact absurd this (by decide)); rw [h]; (have := f _ h; rw [e'] at this; exact absurd this (by decide)))
  | (have := d' _ d; rw [e] at this; exact absurd this (by decide))
  | (have := d _ d'; rw [e'] at this; exact absurd this (by decide))
theorem InfV.sound {Ps As Bs : List Ty} {q : Int} {m : Nat} {r : List Ty} (h : InfV Ps As Bs q m r) : ∀ (i : Nat) (X : Ty), r[i]? = some X → (look 9 X).2.2 = true := by
  intro i X hX
  rcases h with ⟨a, rfl, rfl, rfl⟩ | ⟨a, b, rfl, rfl, rfl⟩ | ⟨a, b, rfl, rfl, c, d, e⟩ | ⟨a, b, rfl, rfl, c, i', rfl, d, e, f⟩ | ⟨a, b, rfl, rfl, rfl, c, d⟩
  · simp at hX
  · simp at hX
  · simp at hX
  · simp at hX
  · obtain ⟨s1, s2, hnd, hln, σ, hf⟩ := uE_facts b
    have hi : i < Ps.length := by have := (List.getElem?_eq_some_iff.1 hX).1; rwa [uArgs_len, List.length_map] at this
    have h0 := c i hi
    unfold zk at h0
    rw [List.getD_eq_getElem?_getD, hX] at h0
    rw [uArgs_at hf, List.getElem?_map] at hX
    cases hl : (Ps.map Ty.nm)[i]? with
    | none => rw [hl] at hX; cases hX
    | some s =>
      rw [hl] at hX
      have e : (σ s).getD tzC = X := Option.some.inj hX
      cases hs : σ s with
      | none => rw [hs] at e; exact absurd (by rw [← e]; rfl) h0
      | some T => rw [hs] at e; rw [← (show T = X from e)]; exact (found_fine s1 s2 hf s T hs).2
theorem InfV.len {Ps As Bs : List Ty} {q : Int} {m : Nat} {r : List Ty} (h : InfV Ps As Bs q m r) : r.length ≤ Ps.length := by
  rcases h with ⟨a, rfl, rfl, rfl⟩ | ⟨a, b, rfl, rfl, rfl⟩ | ⟨a, b, rfl, rfl, c, d, e⟩ | ⟨a, b, rfl, rfl, c, i', rfl, d, e, f⟩ | ⟨a, b, rfl, rfl, rfl, c, d⟩
  · simp
  · simp
  · simp
  · simp
  · rw [uArgs_len, List.length_map]; omega
/-- What Infer answers. -/
def InferP (Ps As Bs : List Ty) (w : World) (e : Ending) (w' : World) : Prop :=
  ∃ q m r ad c K, InfV Ps As Bs q m r ∧ e = .returned (.tuple #[.slice ad r.length c, .int .i64 (m : Nat), .int .i64 q]) ∧ Kp w w' ∧ LiesAll w' A0 9 r ad c K
theorem InferP.no {Ps As Bs : List Ty} {w w' : World} {q : Int} {m : Nat} (h : InfV Ps As Bs q m []) (hk : Kp w w') : InferP Ps As Bs w (.returned (.tuple #[.slice none 0 0, .int .i64 (m : Nat), .int .i64 q])) w' :=
  ⟨q, m, [], none, 0, fun _ => hd0, h, rfl, hk, tab_nil _ _ _ _ _, fun i X hX => by simp at hX⟩
set_option maxHeartbeats 12800000 in
set_option maxRecDepth 100000 in
theorem c_InferU (R R1 R2 : Nat) (Ps As Bs : List Ty) (pa : Option Addr) (pc : Nat) (K : Nat → Hd) (aa : Option Addr) (ac : Nat) (KA : Nat → Hd) (ba : Option Addr) (bc : Nat) (KB : Nat → Hd) (w : World)
    (hP : LiesAll w A0 R Ps pa pc K) (hlP : Ps.length * 104 ≤ 140737488351232) (hnP : ∀ X, X ∈ Ps → X.nm.size ≤ 140737488351232) (hA : LiesAll w A0 R1 As aa ac KA) (hlA : As.length * 104 ≤ 140737488351232) (hB : LiesAll w A0 R2 Bs ba bc KB) (hlB : Bs.length * 104 ≤ 140737488351232) :
    Calls Try.prog 14 #[.slice pa Ps.length pc, .slice aa As.length ac, .slice ba Bs.length bc] w (InferP Ps As Bs w) := by
  have HP := Lib.hid hP
  have CN := Lib.hid (c_namesOf R Ps pa pc K w hP hlP)
  have hLl : (Ps.map Ty.nm).length = Ps.length := List.length_map _
  obtain ⟨L, hL⟩ : ∃ L, Ps.map Ty.nm = L := ⟨_, rfl⟩
  have HL := Lib.hid hL
  have CS := Lib.hid (fun (na : Option Addr) (nc : Nat) (W : World) (k : Kp w W) (ht : tab W A0 9 na Ps.length nc 1 (fun i => [.string (L.getD i ByteArray.empty)])) => (show Calls Try.prog 22 #[.slice na Ps.length nc, .slice aa As.length ac, .slice ba Bs.length bc] W fun e w' => ∃ ad c K, e = .returned (.tuple #[.slice ad (uRes L As Bs).length c, .int .i64 (uAt L As Bs : Nat), .int .i64 (uE L As Bs)]) ∧ Kp W w' ∧ LiesAll w' (From W.heap.size) 9 (uRes L As Bs) ad c K from by
    have hLP : L.length = Ps.length := by rw [← hL]; exact hLl
    rw [← hLP] at ht ⊢
    exact c_solve L na nc A0 R1 R2 As Bs aa ac ba bc KA KB W ht (fun s hs => by
      rw [← hL] at hs
      obtain ⟨X, hX, e⟩ := List.mem_map.1 hs
      rw [← e]
      exact hnP X hX) (by omega) (hA.keep k) hlA (hB.keep k) hlB (fun _ => by omega)))
  clear hP hA hB hnP hLl
  cases hp : pOk Ps with
  | false =>
    have HV := Lib.hid (show InfV Ps As Bs 1 0 [] from .inl ⟨hp, rfl, rfl, rfl⟩)
    have CN2 := Lib.hid (CN.out.mono (fun e w' h => (show e = .returned (.tuple #[.slice none 0 0, .int .i64 1]) ∧ Kp w w' from by
      obtain ⟨hk, ⟨_, he⟩ | ⟨h1, _⟩⟩ := h
      · exact ⟨he, hk⟩
      · rw [hp] at h1; cases h1)))
    clear CN CS hp
    go_enter Try.func14, Try.ntmps14
    go_wp2_with (first | (go_at_call 26; (with_reducible refine CN2.out.mono ?_); rintro e w2 ⟨rfl, hk2⟩))
    refine bodyPost_ret (v := .tuple #[.slice none 0 0, .int .i64 0, .int .i64 1]) (by simp [results, Try.results14, go_sem]) rfl ?_
    exact InferP.no HV.out hk2
  | true =>
    have CN2 := Lib.hid (CN.out.mono (fun e w' h => (show ∃ na nc, e = .returned (.tuple #[.slice na Ps.length nc, .int .i64 0]) ∧ Kp w w' ∧ tab w' A0 9 na Ps.length nc 1 (fun i => [.string (L.getD i ByteArray.empty)]) from by
      obtain ⟨hk, ⟨h1, _⟩ | ⟨_, na, nc, he, _, ht⟩⟩ := h
      · rw [hp] at h1; cases h1
      · rw [hL] at ht
        exact ⟨na, nc, he, hk, ht.weak (A0_le _)⟩)))
    have HPO := Lib.hid hp
    clear CN hp
    by_cases h0 : uE L As Bs = 0
    case neg =>
      obtain ⟨q, hq⟩ : ∃ q, uE L As Bs = q := ⟨_, rfl⟩
      obtain ⟨m, hm⟩ : ∃ m, uAt L As Bs = m := ⟨_, rfl⟩
      have HV := Lib.hid (show InfV Ps As Bs q m [] from .inr (.inl ⟨HPO.out, by rw [hL]; exact h0, by rw [hL]; exact hq.symm, by rw [hL]; exact hm.symm, rfl⟩))
      have hr : (uRes L As Bs).length = 0 := by rw [uRes_no h0]; rfl
      have CS2 := Lib.hid (fun na nc W k ht => (CS.out na nc W k ht).mono (fun e w' h => (show ∃ ad c, e = .returned (.tuple #[.slice ad 0 c, .int .i64 (m : Nat), .int .i64 q]) ∧ Kp W w' from by
        obtain ⟨ad, c, K, e1, e2, _⟩ := h
        exact ⟨ad, c, by rw [e1, hr, hm, hq], e2⟩)))
      have hqb : (q != 0) = true := bne_iff_ne.2 (by rw [← hq]; exact h0)
      clear CS hq hm hr h0 hL
      go_enter Try.func14, Try.ntmps14
      go_wp2_with (first | (go_at_call 26; (with_reducible refine CN2.out.mono ?_); rintro e w2 ⟨na, nc, rfl, hk2, ht2⟩; have HT2 := Lib.hid ht2; have K2 := Lib.hid hk2; clear ht2 hk2) | (go_at_call 22; (with_reducible refine (CS2.out na nc w2 K2.out HT2.out).mono ?_); rintro e w3 ⟨ad, c, rfl, hk3⟩))
      refine bodyPost_ret (v := .tuple #[.slice none 0 0, .int .i64 m, .int .i64 q]) (by simp [results, Try.results14, go_sem]) rfl ?_
      exact InferP.no HV.out (K2.out.trans hk3)
    have hfa := uE_facts h0
    have HFA := Lib.hid hfa
    obtain ⟨Zs, hZ⟩ : ∃ Zs, uArgs L As Bs = Zs := ⟨_, rfl⟩
    have HZ := Lib.hid hZ
    have hzl : Zs.length = Ps.length := by rw [← hZ, uArgs_len, ← hL, List.length_map]
    have CS2 := Lib.hid (fun na nc W k ht => (CS.out na nc W k ht).mono (fun e w' h => (show ∃ ad c KZ, e = .returned (.tuple #[.slice ad Zs.length c, .int .i64 0, .int .i64 0]) ∧ Kp W w' ∧ LiesAll w' A0 9 Zs ad c KZ from by
      obtain ⟨ad, c, K, e1, e2, e3⟩ := h
      rw [uRes_ok h0, hZ] at e1 e3
      have e4 : uAt L As Bs = 0 := by unfold uAt; rw [h0]; rfl
      rw [e4, h0] at e1
      exact ⟨ad, c, K, e1, e2, e3.weak (A0_le _)⟩)))
    have HU0 := Lib.hid h0
    have hz1 : Zs.length ≤ Ps.length := by omega
    have hz2 : Ps.length ≤ Zs.length := by omega
    have HS := Lib.hid (fun (i : Nat) (X : Ty) (hX : Zs[i]? = some X) (hk : X.k ≠ 0) => (show (look 9 X).2.2 = true from by
      obtain ⟨s1, s2, _, _, σ, hf⟩ := hfa
      rw [← hZ, uArgs_at hf, List.getElem?_map] at hX
      cases hl : L[i]? with
      | none => rw [hl] at hX; cases hX
      | some s =>
        rw [hl] at hX
        have e : (σ s).getD tzC = X := Option.some.inj hX
        cases hs : σ s with
        | none => rw [hs] at e; exact absurd (by rw [← e]; rfl) hk
        | some T => rw [hs] at e; rw [← (show T = X from e)]; exact (found_fine s1 s2 hf s T hs).2))
    clear CS hZ hzl h0 hfa hL
    go_enter Try.func14, Try.ntmps14
    go_wp2_with (first | (go_at_call 26; (with_reducible refine CN2.out.mono ?_); rintro e w2 ⟨na, nc, rfl, hk2, ht2⟩; have HT2 := Lib.hid ht2; have K2 := Lib.hid hk2; clear ht2 hk2) | (go_at_call 22; (with_reducible refine (CS2.out na nc w2 K2.out HT2.out).mono ?_); rintro e w3 ⟨ad, c, KZ, rfl, hk3, hl3⟩; have HZL := Lib.hid hl3; have K3 := Lib.hid (K2.out.trans hk3); clear hk3 hl3))
    go_loopw [6, 38] (fun v i wr => v = .slice ad Zs.length c ∧ ∃ n : Nat, n ≤ Zs.length ∧ i = .int .i64 n ∧ (∀ j, j < n → zk Zs j ≠ 0) ∧ Kp w3 wr) (fun _ i _ => Zs.length - (intOf i).toNat)
    case atStart => exact ⟨rfl, 0, Nat.zero_le _, rfl, fun j hj => absurd hj (by omega), Kp.refl _⟩
    case round =>
      obtain ⟨rfl, n, hn, rfl, hok, hkr⟩ := hrel
      have HOK := Lib.hid hok
      have HKR := Lib.hid hkr
      clear hok hkr
      by_cases hlt : n < Zs.length
      · obtain ⟨b, o, ha, hr⟩ := HZL.out.1.at (by omega)
        have HAA := Lib.hid ha
        have HR := Lib.hid (hr n hlt)
        clear ha hr
        obtain ⟨X, hX⟩ : ∃ X, Zs[n]? = some X := ⟨_, List.getElem?_eq_getElem hlt⟩
        have hkk : (KZ n).k = X.k := lies_k (HZL.out.2 n X hX)
        have hzz : zk Zs n = X.k := by unfold zk; rw [List.getD_eq_getElem?_getD, hX]; rfl
        by_cases hx0 : X.k = 0
        · have hb : ((KZ n).k != 0) = false := by rw [hkk, hx0]; rfl
          have HV := Lib.hid (show InfV Ps As Bs 12 n [] from .inr (.inr (.inl ⟨HPO.out, by rw [HL.out]; exact HU0.out, rfl, rfl, by omega, by rw [HL.out, HZ.out, hzz]; exact hx0, by rw [HL.out, HZ.out]; exact HOK.out⟩)))
          clear hkk hzz hx0 hX
          go_wp2_with (first | ((with_reducible show wpList _ _ _ (⟨some 41, _, _, _, _, _⟩ :: _) _ _); refine wpList_index_tab (d := 41) _ _ _ rfl 42 Try.underlying23 6 rfl _ _ _ _ o (by rfl) HAA.out n (by rfl) hlt ?_) | ((with_reducible show wpList _ _ _ (⟨some 42, _, _, _, _, _⟩ :: _) _ _); refine wpList_load_ty (d := 42) _ _ rfl _ Try.underlying42 w3 _ _ b (o + n * 6) (by rfl) rfl (by first | rfl | omega) (KZ n) HR.out HKR.out rfl ?_) | (go_at_call 23; refine (c_isKnown (KZ n) _).mono ?_; rintro e w6 ⟨rfl, hk6⟩; rw [hb]))
          refine bodyPost_ret (v := .tuple #[.slice none 0 0, .int .i64 n, .int .i64 12]) (by simp [results, Try.results14, go_sem]) rfl ?_
          exact InferP.no HV.out (K3.out.trans ((HKR.out.alloc _).trans hk6))
        · have hb : ((KZ n).k != 0) = true := bne_iff_ne.2 (by omega)
          have HZZ := Lib.hid (show zk Zs n ≠ 0 by rw [hzz]; exact hx0)
          clear hkk hzz hx0 hX
          go_wp2_with (first | ((with_reducible show wpList _ _ _ (⟨some 41, _, _, _, _, _⟩ :: _) _ _); refine wpList_index_tab (d := 41) _ _ _ rfl 42 Try.underlying23 6 rfl _ _ _ _ o (by rfl) HAA.out n (by rfl) hlt ?_) | ((with_reducible show wpList _ _ _ (⟨some 42, _, _, _, _, _⟩ :: _) _ _); refine wpList_load_ty (d := 42) _ _ rfl _ Try.underlying42 w3 _ _ b (o + n * 6) (by rfl) rfl (by first | rfl | omega) (KZ n) HR.out HKR.out rfl ?_) | (go_at_call 23; refine (c_isKnown (KZ n) _).mono ?_; rintro e w6 ⟨rfl, hk6⟩; rw [hb]))
          go_roundw
          case rel => exact ⟨rfl, n + 1, by omega, by go_num, fun j hj => by
            by_cases e : j = n
            · subst e; exact HZZ.out
            · exact HOK.out j (by omega), (HKR.out.alloc _).trans hk6⟩
          case measure => simp [intOf]; omega
      · obtain rfl : n = Zs.length := by omega
        have hzA : ¬ ((Zs.length : Int) < (Zs.length : Int)) := by omega
        go_wp2_with fail
        go_loopw [6, 50] (fun v i wr => v = .slice ad Zs.length c ∧ ∃ n : Nat, n ≤ Zs.length ∧ i = .int .i64 n ∧ (∀ j, j < n → zf Zs Ps j = true) ∧ Kp w3 wr) (fun _ i _ => Zs.length - (intOf i).toNat)
        case atStart => exact ⟨rfl, 0, Nat.zero_le _, rfl, fun j hj => absurd hj (by omega), HKR.out⟩
        case round =>
          obtain ⟨rfl, n, hn, rfl, hfit, hkr⟩ := hrel
          have HFIT := Lib.hid hfit
          have HKR := Lib.hid hkr
          clear hfit hkr
          by_cases hlt : n < Zs.length
          · obtain ⟨b, o, ha, hr⟩ := HZL.out.1.at (by omega)
            have HAA := Lib.hid ha
            have HR := Lib.hid (hr n hlt)
            obtain ⟨pb, po, hpa, hpr⟩ := HP.out.1.at (by omega)
            have x6 : (wr.alloc (.cells #[.int .i64 (KZ n).k, .string (KZ n).nm, .int .i64 (KZ n).con, .slice (KZ n).fa (KZ n).fl (KZ n).fc, .slice (KZ n).la (KZ n).ll (KZ n).lc, .slice (KZ n).ra (KZ n).rl (KZ n).rc] 42)).cell? ⟨pb, po + n * 6 + 2, none⟩ = some (.int .i64 (K n).con) := ((K3.out.trans HKR.out).trans ((Kp.refl wr).alloc _)).cellv (hpr n (by omega) 2 _ rfl)
            obtain ⟨x0, x1, x2, x3, x4, x5, xs⟩ := boxed (h := KZ n) (Kp.refl (wr.alloc (.cells #[.int .i64 (KZ n).k, .string (KZ n).nm, .int .i64 (KZ n).con, .slice (KZ n).fa (KZ n).fl (KZ n).fc, .slice (KZ n).la (KZ n).ll (KZ n).lc, .slice (KZ n).ra (KZ n).rl (KZ n).rc] 42)))
            obtain ⟨X, hX⟩ : ∃ X, Zs[n]? = some X := ⟨_, List.getElem?_eq_getElem hlt⟩
            obtain ⟨Y, hY⟩ : ∃ Y, Ps[n]? = some Y := ⟨_, List.getElem?_eq_getElem (by omega)⟩
            have hX0 : X.k ≠ 0 := by have := HOK.out n hlt; unfold zk at this; rw [List.getD_eq_getElem?_getD, hX] at this; exact this
            have hpy := pOk_at HPO.out hY
            have hcc := con_12 hpy.2 hpy.1
            have hck : (K n).con = Y.con := lies_con (HP.out.2 n Y hY)
            have hzf : zf Zs Ps n = fitB X (K n).con := by unfold zf; rw [List.getD_eq_getElem?_getD, hX, List.getD_eq_getElem?_getD, hY, hck]; rfl
            have HZF := Lib.hid hzf
            have CF := Lib.hid (fun W (k : Kp w3 W) => fits_some 9 X (KZ n) W (K n).con ((HZL.out.2 n X hX).keep k) (HS.out n X hX hX0) (by rw [hck]; exact hcc))
            subst hpa
            have j1 : (0 : Int) ≤ n := by omega
            have j2 : (n : Int) < Ps.length := by omega
            have j3 : IntKind.i64.wrap ((As.length : Int) + (n : Int)) = (As.length : Int) + (n : Int) := by rw [IntKind.wrap_i64]; omega
            clear ha hr hpr hX hY hX0 hpy hcc hck hzf xs
            cases hfb : fitB X (K n).con with
            | false =>
              have HV := Lib.hid (show InfV Ps As Bs 9 (As.length + n) [] from .inr (.inr (.inr (.inl ⟨HPO.out, by rw [HL.out]; exact HU0.out, rfl, rfl, by rw [HL.out, HZ.out]; exact fun j hj => HOK.out j (by omega), n, rfl, by omega, by rw [HL.out, HZ.out, HZF.out]; exact hfb, by rw [HL.out, HZ.out]; exact HFIT.out⟩))))
              go_wp2_with (first | ((with_reducible show wpList _ _ _ (⟨some 53, _, _, _, _, _⟩ :: _) _ _); refine wpList_index_tab (d := 53) _ _ _ rfl 42 Try.underlying23 6 rfl _ _ _ _ o (by rfl) HAA.out n (by rfl) hlt ?_) | ((with_reducible show wpList _ _ _ (⟨some 54, _, _, _, _, _⟩ :: _) _ _); refine wpList_load_ty (d := 54) _ _ rfl _ Try.underlying42 w3 _ _ b (o + n * 6) (by rfl) rfl (by first | rfl | omega) (KZ n) HR.out HKR.out rfl ?_))
              go_region_held3 (fun w' => w'.cell? ⟨wr.heap.size, 0, none⟩ = some (.int .i64 (KZ n).k) ∧ w'.cell? ⟨wr.heap.size, 1, none⟩ = some (.string (KZ n).nm) ∧ w'.cell? ⟨wr.heap.size, 2, none⟩ = some (.int .i64 (KZ n).con) ∧ w'.cell? ⟨wr.heap.size, 3, none⟩ = some (.slice (KZ n).fa (KZ n).fl (KZ n).fc) ∧ w'.cell? ⟨wr.heap.size, 4, none⟩ = some (.slice (KZ n).la (KZ n).ll (KZ n).lc) ∧ w'.cell? ⟨wr.heap.size, 5, none⟩ = some (.slice (KZ n).ra (KZ n).rl (KZ n).rc) ∧ w'.cell? ⟨pb, po + n * 6 + 2, none⟩ = some (.int .i64 (K n).con))
                (first | exact ⟨x0, x1, x2, x3, x4, x5, x6⟩ | exact ⟨hk6.cellv x0, hk6.cellv x1, hk6.cellv x2, hk6.cellv x3, hk6.cellv x4, hk6.cellv x5, hk6.cellv x6⟩)
                (first | (go_at_call 27; (with_reducible refine (CF.out _ (HKR.out.alloc _).drew).mono ?_); rintro e w6 ⟨rfl, hk6⟩; rw [hfb]))
              go_wp2_with fail
              refine bodyPost_ret (v := .tuple #[.slice none 0 0, .int .i64 ((As.length + n : Nat) : Int), .int .i64 9]) (by simp [results, Try.results14, go_sem]) rfl ?_
              exact InferP.no HV.out (K3.out.trans ((HKR.out.alloc _).drew.trans hk6))
            | true =>
              have HFB := Lib.hid (HZF.out.trans hfb)
              go_wp2_with (first | ((with_reducible show wpList _ _ _ (⟨some 53, _, _, _, _, _⟩ :: _) _ _); refine wpList_index_tab (d := 53) _ _ _ rfl 42 Try.underlying23 6 rfl _ _ _ _ o (by rfl) HAA.out n (by rfl) hlt ?_) | ((with_reducible show wpList _ _ _ (⟨some 54, _, _, _, _, _⟩ :: _) _ _); refine wpList_load_ty (d := 54) _ _ rfl _ Try.underlying42 w3 _ _ b (o + n * 6) (by rfl) rfl (by first | rfl | omega) (KZ n) HR.out HKR.out rfl ?_))
              go_region_held3 (fun w' => w'.cell? ⟨wr.heap.size, 0, none⟩ = some (.int .i64 (KZ n).k) ∧ w'.cell? ⟨wr.heap.size, 1, none⟩ = some (.string (KZ n).nm) ∧ w'.cell? ⟨wr.heap.size, 2, none⟩ = some (.int .i64 (KZ n).con) ∧ w'.cell? ⟨wr.heap.size, 3, none⟩ = some (.slice (KZ n).fa (KZ n).fl (KZ n).fc) ∧ w'.cell? ⟨wr.heap.size, 4, none⟩ = some (.slice (KZ n).la (KZ n).ll (KZ n).lc) ∧ w'.cell? ⟨wr.heap.size, 5, none⟩ = some (.slice (KZ n).ra (KZ n).rl (KZ n).rc) ∧ w'.cell? ⟨pb, po + n * 6 + 2, none⟩ = some (.int .i64 (K n).con))
                (first | exact ⟨x0, x1, x2, x3, x4, x5, x6⟩ | exact ⟨hk6.cellv x0, hk6.cellv x1, hk6.cellv x2, hk6.cellv x3, hk6.cellv x4, hk6.cellv x5, hk6.cellv x6⟩)
                (first | (go_at_call 27; (with_reducible refine (CF.out _ (HKR.out.alloc _).drew).mono ?_); rintro e w6 ⟨rfl, hk6⟩; rw [hfb]))
              go_wp2_with fail
              go_roundw
              case rel => exact ⟨rfl, n + 1, by omega, by go_num, fun j hj => by
                by_cases e : j = n
                · subst e; exact HFB.out
                · exact HFIT.out j (by omega), (HKR.out.alloc _).drew.trans hk6⟩
              case measure => simp [intOf]; omega
          · obtain rfl : n = Zs.length := by omega
            have hzB : ¬ ((Zs.length : Int) < (Zs.length : Int)) := by omega
            have HV := Lib.hid (show InfV Ps As Bs 0 0 Zs from .inr (.inr (.inr (.inr ⟨HPO.out, by rw [HL.out]; exact HU0.out, rfl, rfl, by rw [HL.out, HZ.out], by rw [HL.out, HZ.out]; exact fun j hj => HOK.out j (by omega), by rw [HL.out, HZ.out]; exact fun j hj => HFIT.out j (by omega)⟩))))
            go_wp2_with fail
            refine bodyPost_ret (v := .tuple #[.slice ad Zs.length c, .int .i64 0, .int .i64 0]) (by simp [results, Try.results14, go_sem]) rfl ?_
            exact ⟨0, 0, Zs, ad, c, KZ, HV.out, rfl, K3.out.trans HKR.out, HZL.out.keep HKR.out⟩
theorem kb_zk (Zs : List Ty) (n : Nat) : kb Zs n = (zk Zs n != 0) := rfl
set_option maxHeartbeats 12800000 in
set_option maxRecDepth 100000 in
theorem c_InferR (R R1 R2 : Nat) (Ps As Bs : List Ty) (pa : Option Addr) (pc : Nat) (K : Nat → Hd) (aa : Option Addr) (ac : Nat) (KA : Nat → Hd) (ba : Option Addr) (bc : Nat) (KB : Nat → Hd) (w : World)
    (hP : LiesAll w A0 R Ps pa pc K) (hlP : Ps.length * 104 ≤ 140737488351232) (hA : LiesAll w A0 R1 As aa ac KA) (hlA : As.length * 104 ≤ 140737488351232) (hB : LiesAll w A0 R2 Bs ba bc KB) (hlB : Bs.length * 104 ≤ 140737488351232) :
    Calls Try.prog 15 #[.slice pa Ps.length pc, .slice aa As.length ac, .slice ba Bs.length bc] w (InferP Ps As Bs w) := by
  obtain ⟨i2, hs, hx0, hx1, hx2⟩ := info_parts infoS
  have HP := Lib.hid hP
  have hLl : (Ps.map Ty.nm).length = Ps.length := List.length_map _
  obtain ⟨L, hL⟩ : ∃ L, Ps.map Ty.nm = L := ⟨_, rfl⟩
  have HL := Lib.hid hL
  have hLP : L.length = Ps.length := by rw [← hL]; exact hLl
  have hl1 : L.length ≤ Ps.length := Nat.le_of_eq hLP
  have hl2 : Ps.length ≤ L.length := Nat.le_of_eq hLP.symm
  have CFD := Lib.hid (fun (na : Option Addr) (nc : Nat) (W : World) (k : Kp w W) (hc : Ps.length ≤ nc) (ht : tab W A0 9 na Ps.length nc 1 (fun i => [.string (L.getD i ByteArray.empty)])) => (show Calls Try.prog 11 #[.slice na Ps.length nc, .slice aa As.length ac, .slice ba Bs.length bc] W (FindP L na nc As Bs W) from by
    rw [← hLP] at ht hc ⊢
    exact c_Find L na nc A0 R1 R2 As Bs aa ac ba bc KA KB W ht hc (by omega) (by omega) (hA.keep k) hlA (hB.keep k) hlB))
  clear hP hA hB hLl hLP hL
  go_enter Try.func15, Try.ntmps15
  go_wp2_with fail
  go_loopw [9, 10] (fun u i wr => ∃ n : Nat, n ≤ Ps.length ∧ i = .int .i64 n ∧ (∀ (j : Nat) (X : Ty), j < n → Ps[j]? = some X → X.k = 12 ∧ (look 9 X).2.2 = true) ∧ wr.ownsRow w.heap.size 9 1 u n ((nmL Ps n).map Value.string) ∧ Kp w wr) (fun _ i _ => Ps.length - (intOf i).toNat)
  case atStart => exact ⟨0, Nat.zero_le _, rfl, fun j X hj => absurd hj (by omega), by simpa [nmL] using World.ownsRow_nil _ _ _ _, Kp.refl _⟩
  case round =>
    obtain ⟨n, hn, rfl, hok, hu, hkr⟩ := hrel
    have HOK := Lib.hid hok
    have HU := Lib.hid hu
    have HKR := Lib.hid hkr
    have hzr : w.heap.size ≤ wr.heap.size := hkr.sz
    clear hok hu hkr
    by_cases hlt : n < Ps.length
    · obtain ⟨b, o, ha, hr⟩ := HP.out.1.at (by omega)
      obtain ⟨X, hX⟩ : ∃ X, Ps[n]? = some X := ⟨_, List.getElem?_eq_getElem hlt⟩
      have HX := Lib.hid hX
      have hkk : (K n).k = X.k := lies_k (HP.out.2 n X hX)
      have hnn : (K n).nm = X.nm := lies_nm (HP.out.2 n X hX)
      have CC := Lib.hid (fun W (k : Kp w W) => c_Sound R X (K n) W ((HP.out.2 n X HX.out).keep k))
      have x0 : wr.cell? ⟨b, o + n * 6, none⟩ = some (.int .i64 (K n).k) := HKR.out.cellv (hr n hlt 0 _ rfl)
      have x1 : wr.cell? ⟨b, o + n * 6 + 1, none⟩ = some (.string (K n).nm) := HKR.out.cellv (hr n hlt 1 _ rfl)
      have x2 : wr.cell? ⟨b, o + n * 6 + 2, none⟩ = some (.int .i64 (K n).con) := HKR.out.cellv (hr n hlt 2 _ rfl)
      have x3 : wr.cell? ⟨b, o + n * 6 + 3, none⟩ = some (.slice (K n).fa (K n).fl (K n).fc) := HKR.out.cellv (hr n hlt 3 _ rfl)
      have x4 : wr.cell? ⟨b, o + n * 6 + 4, none⟩ = some (.slice (K n).la (K n).ll (K n).lc) := HKR.out.cellv (hr n hlt 4 _ rfl)
      have x5 : wr.cell? ⟨b, o + n * 6 + 5, none⟩ = some (.slice (K n).ra (K n).rl (K n).rc) := HKR.out.cellv (hr n hlt 5 _ rfl)
      have x1w := Lib.hid (fun W (k : Kp w W) => (show W.cell? ⟨b, o + n * 6 + 1, none⟩ = some (.string (K n).nm) from k.cellv (hr n hlt 1 _ rfl)))
      have xl : b < wr.heap.size := lt_of_cell x0
      subst ha
      have j1 : (0 : Int) ≤ n := by omega
      have j2 : (n : Int) < Ps.length := by omega
      clear hX hr
      by_cases h12 : X.k = 12
      case neg =>
        have HV := Lib.hid (show InfV Ps As Bs 1 0 [] from .inl ⟨pOk_no HX.out (.inl h12), rfl, rfl, rfl⟩)
        have hb : ((K n).k != 12) = true := bne_iff_ne.2 (by omega)
        clear hkk hnn h12
        go_wp2_with fail
        refine bodyPost_ret (v := .tuple #[.slice none 0 0, .int .i64 0, .int .i64 1]) (by simp [results, Try.results15, go_sem]) rfl ?_
        exact InferP.no HV.out HKR.out
      have hb : ((K n).k != 12) = false := by rw [hkk, h12]; rfl
      cases hsd : (look 9 X).2.2 with
      | false =>
        have HV := Lib.hid (show InfV Ps As Bs 1 0 [] from .inl ⟨pOk_no HX.out (.inr hsd), rfl, rfl, rfl⟩)
        clear hkk hnn h12
        go_wp2_with (first | (go_at_call 21; (with_reducible refine (CC.out _ HKR.out).mono ?_); rintro e w6 ⟨rfl, hk6⟩; rw [hsd]))
        refine bodyPost_ret (v := .tuple #[.slice none 0 0, .int .i64 0, .int .i64 1]) (by simp [results, Try.results15, go_sem]) rfl ?_
        exact InferP.no HV.out (HKR.out.trans hk6)
      | true =>
        have HG := Lib.hid (show X.k = 12 ∧ (look 9 X).2.2 = true from ⟨h12, hsd⟩)
        have HNN := Lib.hid hnn
        clear hkk hnn h12
        go_wp2_with (first | (go_at_call 21; (with_reducible refine (CC.out _ HKR.out).mono ?_); rintro e w6 ⟨rfl, hk6⟩; rw [hsd]; have K6 := Lib.hid (HKR.out.trans hk6); have J6 := Lib.hid hk6; have x1b := x1w.out w6 (HKR.out.trans hk6); have xlb : b < w6.heap.size := lt_of_cell x1b; have hz6 : w.heap.size ≤ w6.heap.size := (HKR.out.trans hk6).sz; clear hk6) | ((with_reducible show wpList _ _ _ (⟨some 43, _, _, _, _, _⟩ :: _) _ _); refine wpList_append_one (d := 43) _ _ 22 rfl w.heap.size 9 i2 _ 1 16 Try.underlying22 hs hx0 hx1 hx2 rfl (by decide) _ n _ (by rfl) _ (own_keep HU.out J6.out) [.string (K n).nm] _ _ _ (by rfl) (by first | rfl | simp) (by rfl) (by rfl) (by intro u hu; simp at hu; subst hu; rfl) (by unfold maxLen; omega) (by omega) (by omega) ?_; intro v1 w8 ho8 hg8; have HO8 := Lib.hid ho8; have HG8 := Lib.hid hg8; clear ho8 hg8))
        go_roundw
        case rel => exact ⟨n + 1, by omega, by go_num, fun j Y hj hY => by
          by_cases e : j = n
          · subst e; rw [HX.out] at hY; cases hY; exact HG.out
          · exact HOK.out j Y (by omega) hY, by rw [nmL_succ HX.out, List.map_append, ← HNN.out]; exact HO8.out, (K6.out.alloc _).grown HG8.out (fun k hk => (HU.out.lt k hk).1)⟩
        case measure => simp [intOf]; omega
    · obtain rfl : n = Ps.length := by omega
      have hz : ¬ ((Ps.length : Int) < (Ps.length : Int)) := by omega
      have HPO := Lib.hid (pOk_yes HOK.out)
      obtain ⟨na, nc, hv, hle, ht⟩ := (show rowS wr w.heap.size u9 (nmL Ps Ps.length) from by
        have h1 := HU.out
        unfold rowS
        rw [nmL_len (Nat.le_refl _)]
        exact h1).tab
      subst hv
      rw [nmL_len (Nat.le_refl _)] at ht hle
      rw [nmL_all, HL.out] at ht
      have CF := Lib.hid (CFD.out na nc wr HKR.out hle (ht.weak (A0_le _)))
      clear ht CFD
      rw [nmL_len (Nat.le_refl _)]
      by_cases h0 : uE L As Bs = 0
      case neg =>
        obtain ⟨q, hq⟩ : ∃ q, uE L As Bs = q := ⟨_, rfl⟩
        obtain ⟨m, hm⟩ : ∃ m, uAt L As Bs = m := ⟨_, rfl⟩
        have HV := Lib.hid (show InfV Ps As Bs q m [] from .inr (.inl ⟨HPO.out, by rw [HL.out]; exact h0, by rw [HL.out]; exact hq.symm, by rw [HL.out]; exact hm.symm, rfl⟩))
        have CF2 := Lib.hid (CF.out.mono (fun e w' h => (show e = .returned (.tuple #[.pointer none, .int .i64 (m : Nat), .int .i64 q]) ∧ Kp wr w' from by rw [← hm, ← hq]; exact h.no h0)))
        have hqb : (q != 0) = true := bne_iff_ne.2 (by rw [← hq]; exact h0)
        clear CF hq hm h0
        go_wp2_with (first | (go_at_call 11; (with_reducible refine CF2.out.mono ?_); rintro e w3 ⟨rfl, hk3⟩))
        refine bodyPost_ret (v := .tuple #[.slice none 0 0, .int .i64 m, .int .i64 q]) (by simp [results, Try.results15, go_sem]) rfl ?_
        exact InferP.no HV.out (HKR.out.trans hk3)
      have hfa := uE_facts h0
      obtain ⟨Zs, hZ⟩ : ∃ Zs, uArgs L As Bs = Zs := ⟨_, rfl⟩
      have HZ := Lib.hid hZ
      have hz1 : Zs.length ≤ L.length := by rw [← hZ, uArgs_len]; omega
      have hz2 : L.length ≤ Zs.length := by rw [← hZ, uArgs_len]; omega
      have HU0 := Lib.hid h0
      obtain ⟨s1, s2, hnd1, hln1, σ, hf⟩ := hfa
      have HKB := Lib.hid (fun (n : Nat) (s : ByteArray) (hn : n < L.length) (hs : L.getD n ByteArray.empty = s) => (show (zk Zs n != 0) = (σ s).isSome from by
        have h1 := (kb_known (found_fine s1 s2 hf) hf h0 hn hs).1
        rw [uRes_ok h0, hZ, kb_zk] at h1
        exact h1))
      have HAT := Lib.hid (fun (n : Nat) (s : ByteArray) (hn : n < L.length) (hs : L.getD n ByteArray.empty = s) => (show Zs[n]? = some ((σ s).getD tzC) from by
        have h1 := (kb_known (found_fine s1 s2 hf) hf h0 hn hs).2
        rw [uRes_ok h0, hZ] at h1
        exact h1))
      have HFN := Lib.hid (found_fine s1 s2 hf)
      have HTY := Lib.hid (show L.map (fun s => (σ s).getD tzC) = Zs by rw [← hZ, uArgs_at hf])
      have CF2 := Lib.hid (CF.out.mono (fun e w' h => (show ∃ bb bT bK, e = .returned (.tuple #[.pointer (some ⟨bb, 0, none⟩), .int .i64 0, .int .i64 0]) ∧ BdE bb bT bK L na nc σ w' ∧ Kp wr w' from by
        obtain ⟨bb, bT, bK, σ', e1, e2, e3, e4⟩ := h.yes h0
        rw [hf] at e2
        cases e2
        exact ⟨bb, bT, bK, e1, e3, e4⟩)))
      clear CF hZ h0 hf s1 s2 hz hnd1 hln1
      go_wp2_with (first | (go_at_call 11; (with_reducible refine CF2.out.mono ?_); rintro e w3 ⟨bb, bT, bK, rfl, hbe, hk3⟩; have BE := Lib.hid hbe; have K3 := Lib.hid (HKR.out.trans hk3); clear hbe hk3))
      go_loopw [14] (fun i wr => ∃ n : Nat, n ≤ Ps.length ∧ i = .int .i64 n ∧ (∀ j, j < n → zk Zs j ≠ 0) ∧ Kp w3 wr) (fun i _ => Ps.length - (intOf i).toNat)
      case atStart => exact ⟨0, Nat.zero_le _, rfl, fun j hj => absurd hj (by omega), Kp.refl _⟩
      case round =>
        obtain ⟨n, hn, rfl, hkn, hkr⟩ := hrel
        have HKN := Lib.hid hkn
        have HKR := Lib.hid hkr
        have BW := Lib.hid (BE.out.keep hkr)
        clear hkn hkr
        by_cases hlt : n < Ps.length
        · obtain ⟨sn, hsn⟩ : ∃ sn, L.getD n ByteArray.empty = sn := ⟨_, rfl⟩
          have hkz := HKB.out n sn (by omega) hsn
          have y0 : wr.cell? ⟨bK, n, none⟩ = some (.bool (zk Zs n != 0)) := by rw [hkz]; exact (BW.out.row n sn (by omega) hsn).2
          have c2 := BW.out.c2
          have y0l : bK < wr.heap.size := lt_of_cell y0
          have c2l : bb < wr.heap.size := lt_of_cell c2
          have j1 : (0 : Int) ≤ n := by omega
          have j2 : (n : Int) < L.length := by omega
          have j3 : (n : Int) < Ps.length := by omega
          clear hkz hsn
          by_cases hz0 : zk Zs n = 0
          · have e1 : (zk Zs n != 0) = false := by rw [hz0]; rfl
            rw [e1] at y0
            have HV := Lib.hid (show InfV Ps As Bs 12 n [] from .inr (.inr (.inl ⟨HPO.out, by rw [HL.out]; exact HU0.out, rfl, rfl, hlt, by rw [HL.out, HZ.out]; exact hz0, by rw [HL.out, HZ.out]; exact HKN.out⟩)))
            clear hz0 e1
            go_wp2_with fail
            refine bodyPost_ret (v := .tuple #[.slice none 0 0, .int .i64 n, .int .i64 12]) (by simp [results, Try.results15, go_sem]) rfl ?_
            exact InferP.no HV.out (K3.out.trans HKR.out)
          · have e1 : (zk Zs n != 0) = true := bne_iff_ne.2 hz0
            rw [e1] at y0
            have HZ0 := Lib.hid hz0
            clear hz0 e1
            go_wp2_with fail
            go_roundw
            case rel => exact ⟨n + 1, by omega, by go_num, fun j hj => by
              by_cases e : j = n
              · subst e; exact HZ0.out
              · exact HKN.out j (by omega), HKR.out⟩
            case measure => simp [intOf]; omega
        · obtain rfl : n = Ps.length := by omega
          have hzA : ¬ ((Ps.length : Int) < (Ps.length : Int)) := by omega
          go_wp2_with fail
          go_loopw [15] (fun i wr => ∃ n : Nat, n ≤ Ps.length ∧ i = .int .i64 n ∧ (∀ j, j < n → zf Zs Ps j = true) ∧ Kp w3 wr) (fun i _ => Ps.length - (intOf i).toNat)
          case atStart => exact ⟨0, Nat.zero_le _, rfl, fun j hj => absurd hj (by omega), HKR.out⟩
          case round =>
            obtain ⟨n, hn, rfl, hfit, hkr⟩ := hrel
            have HFIT := Lib.hid hfit
            have HKR := Lib.hid hkr
            have BW := Lib.hid (BE.out.keep hkr)
            clear hfit hkr
            by_cases hlt : n < Ps.length
            · obtain ⟨sn, hsn⟩ : ∃ sn, L.getD n ByteArray.empty = sn := ⟨_, rfl⟩
              obtain ⟨⟨hd, r, hst⟩, _⟩ := BW.out.row n sn (by omega) hsn
              have hat := HAT.out n sn (by omega) hsn
              have hkz := HKB.out n sn (by omega) hsn
              rw [bne_iff_ne.2 (HKN.out n hlt)] at hkz
              rcases hst with ⟨e1, _⟩ | ⟨X, R3, e1, hl, hsd⟩
              · rw [e1] at hkz; cases hkz
              rw [e1] at hat
              have hX : Zs[n]? = some X := hat
              obtain ⟨pb, po, hpa, hpr⟩ := HP.out.1.at (by omega)
              obtain ⟨Y, hY⟩ : ∃ Y, Ps[n]? = some Y := ⟨_, List.getElem?_eq_getElem (by omega)⟩
              have hpy := pOk_at HPO.out hY
              have hcc := con_12 hpy.2 hpy.1
              have hck : (K n).con = Y.con := lies_con (HP.out.2 n Y hY)
              have HZF := Lib.hid (show zf Zs Ps n = fitB X (K n).con by unfold zf; rw [List.getD_eq_getElem?_getD, hX, List.getD_eq_getElem?_getD, hY, hck]; rfl)
              have CM := Lib.hid (fun W (k : Kp wr W) => c_Meets R3 X hd W (K n).con (hl.any.keep k) hsd (by rw [hck]; exact hcc))
              have r0 := r 0 _ rfl
              simp only [Nat.add_zero] at r0
              have r1 := r 1 _ rfl
              have r2 := r 2 _ rfl
              have r3 := r 3 _ rfl
              have r4 := r 4 _ rfl
              have r5 := r 5 _ rfl
              have c1 := BW.out.c1
              have x6 : wr.cell? ⟨pb, po + n * 6 + 2, none⟩ = some (.int .i64 (K n).con) := (K3.out.trans HKR.out).cellv (hpr n hlt 2 _ rfl)
              have r0l : bT < wr.heap.size := lt_of_cell r0
              have c1l : bb < wr.heap.size := lt_of_cell c1
              have x6l : pb < wr.heap.size := lt_of_cell x6
              subst hpa
              have j1 : (0 : Int) ≤ n := by omega
              have j2 : (n : Int) < L.length := by omega
              have j3 : (n : Int) < Ps.length := by omega
              have j4 : IntKind.i64.wrap ((As.length : Int) + (n : Int)) = (As.length : Int) + (n : Int) := by rw [IntKind.wrap_i64]; omega
              clear r hat hkz e1 hl hsd hX hpr hY hpy hcc hck hsn
              cases hfb : fitB X (K n).con with
              | false =>
                have HV := Lib.hid (show InfV Ps As Bs 9 (As.length + n) [] from .inr (.inr (.inr (.inl ⟨HPO.out, by rw [HL.out]; exact HU0.out, rfl, rfl, by rw [HL.out, HZ.out]; exact fun j hj => HKN.out j hj, n, rfl, hlt, by rw [HL.out, HZ.out, HZF.out]; exact hfb, by rw [HL.out, HZ.out]; exact HFIT.out⟩))))
                go_wp2_with fail
                go_region_held3 (fun w' => w'.cell? ⟨bT, n * 6, none⟩ = some (.int .i64 hd.k) ∧ w'.cell? ⟨bT, n * 6 + 1, none⟩ = some (.string hd.nm) ∧ w'.cell? ⟨bT, n * 6 + 2, none⟩ = some (.int .i64 hd.con) ∧ w'.cell? ⟨bT, n * 6 + 3, none⟩ = some (.slice hd.fa hd.fl hd.fc) ∧ w'.cell? ⟨bT, n * 6 + 4, none⟩ = some (.slice hd.la hd.ll hd.lc) ∧ w'.cell? ⟨bT, n * 6 + 5, none⟩ = some (.slice hd.ra hd.rl hd.rc) ∧ w'.cell? ⟨bb, 1, none⟩ = some (.slice (some ⟨bT, 0, none⟩) L.length L.length) ∧ w'.cell? ⟨pb, po + n * 6 + 2, none⟩ = some (.int .i64 (K n).con))
                  (first | exact ⟨r0, r1, r2, r3, r4, r5, c1, x6⟩ | exact ⟨hk6.cellv r0, hk6.cellv r1, hk6.cellv r2, hk6.cellv r3, hk6.cellv r4, hk6.cellv r5, hk6.cellv c1, hk6.cellv x6⟩)
                  (first | (go_at_call 28; (with_reducible refine (CM.out _ (Kp.refl wr).drew).mono ?_); rintro e w6 ⟨rfl, hk6⟩; rw [hfb]))
                go_wp2_with fail
                refine bodyPost_ret (v := .tuple #[.slice none 0 0, .int .i64 ((As.length + n : Nat) : Int), .int .i64 9]) (by simp [results, Try.results15, go_sem]) rfl ?_
                exact InferP.no HV.out (K3.out.trans (HKR.out.drew.trans hk6))
              | true =>
                have HFB := Lib.hid (HZF.out.trans hfb)
                go_wp2_with fail
                go_region_held3 (fun w' => w'.cell? ⟨bT, n * 6, none⟩ = some (.int .i64 hd.k) ∧ w'.cell? ⟨bT, n * 6 + 1, none⟩ = some (.string hd.nm) ∧ w'.cell? ⟨bT, n * 6 + 2, none⟩ = some (.int .i64 hd.con) ∧ w'.cell? ⟨bT, n * 6 + 3, none⟩ = some (.slice hd.fa hd.fl hd.fc) ∧ w'.cell? ⟨bT, n * 6 + 4, none⟩ = some (.slice hd.la hd.ll hd.lc) ∧ w'.cell? ⟨bT, n * 6 + 5, none⟩ = some (.slice hd.ra hd.rl hd.rc) ∧ w'.cell? ⟨bb, 1, none⟩ = some (.slice (some ⟨bT, 0, none⟩) L.length L.length) ∧ w'.cell? ⟨pb, po + n * 6 + 2, none⟩ = some (.int .i64 (K n).con))
                  (first | exact ⟨r0, r1, r2, r3, r4, r5, c1, x6⟩ | exact ⟨hk6.cellv r0, hk6.cellv r1, hk6.cellv r2, hk6.cellv r3, hk6.cellv r4, hk6.cellv r5, hk6.cellv c1, hk6.cellv x6⟩)
                  (first | (go_at_call 28; (with_reducible refine (CM.out _ (Kp.refl wr).drew).mono ?_); rintro e w6 ⟨rfl, hk6⟩; rw [hfb]))
                go_wp2_with fail
                go_roundw
                case rel => exact ⟨n + 1, by omega, by go_num, fun j hj => by
                  by_cases e : j = n
                  · subst e; exact HFB.out
                  · exact HFIT.out j (by omega), HKR.out.drew.trans hk6⟩
                case measure => simp [intOf]; omega
            · obtain rfl : n = Ps.length := by omega
              have hzB : ¬ ((Ps.length : Int) < (Ps.length : Int)) := by omega
              have HV := Lib.hid (show InfV Ps As Bs 0 0 Zs from .inr (.inr (.inr (.inr ⟨HPO.out, by rw [HL.out]; exact HU0.out, rfl, rfl, by rw [HL.out, HZ.out], by rw [HL.out, HZ.out]; exact fun j hj => HKN.out j hj, by rw [HL.out, HZ.out]; exact fun j hj => HFIT.out j hj⟩))))
              have c1 := BW.out.c1
              have c1l : bb < wr.heap.size := lt_of_cell c1
              obtain ⟨JJ, hty⟩ := BW.out.types
              rw [HTY.out] at hty
              have hzl : L.length = Zs.length := by omega
              have HZL := Lib.hid hzl
              clear hzl
              go_wp2_with fail
              refine bodyPost_ret (v := .tuple #[.slice (some ⟨bT, 0, none⟩) L.length L.length, .int .i64 0, .int .i64 0]) (by simp [results, Try.results15, go_sem]) rfl ?_
              exact ⟨0, 0, Zs, some ⟨bT, 0, none⟩, L.length, JJ, HV.out, (by rw [HZL.out]; rfl), K3.out.trans HKR.out, hty⟩
set_option maxHeartbeats 6400000 in
set_option maxRecDepth 100000 in
theorem law_UnifyInfers (R : Nat) (Ps : List Ty) (pa : Option Addr) (pc : Nat) (K : Nat → Hd) (R1 : Nat) (As : List Ty) (aa : Option Addr) (ac : Nat) (KA : Nat → Hd) (R2 : Nat) (Bs : List Ty) (ba : Option Addr) (bc : Nat) (KB : Nat → Hd) (w : World)
    (hP : LiesAll w A0 R Ps pa pc K) (hlP : Ps.length * 104 ≤ 140737488351232) (hA : LiesAll w A0 R1 As aa ac KA) (hlA : As.length * 104 ≤ 140737488351232) (hB : LiesAll w A0 R2 Bs ba bc KB) (hlB : Bs.length * 104 ≤ 140737488351232) :
    Calls Try.prog 4 #[.slice pa Ps.length pc, .slice aa As.length ac, .slice ba Bs.length bc] w fun e w' => e = .returned (.bool true) ∧ Kp w w' := by
  have hnP : ∀ X, X ∈ Ps → X.nm.size ≤ 140737488351232 := fun X hX => by
    obtain ⟨j, hj, e⟩ := List.mem_iff_getElem.1 hX
    have hl := hP.2 j X (by rw [List.getElem?_eq_getElem hj, e])
    cases R with
    | zero => exact hl.elim
    | succ r => obtain ⟨K', t, _⟩ := hl; rw [t.en]; exact t.rn
  have CP := Lib.hid (fun W (k : Kp w W) => (c_owns R Ps pa pc K W (hP.keep k) hlP).mono (fun (e : Ending) (w' : World) ⟨ad, c, K, e1, e2, e3⟩ => (show ∃ ad c K, e = Ending.returned (.slice ad Ps.length c) ∧ LiesAll w' A0 R Ps ad c K ∧ Kp W w' from ⟨ad, c, K, e1, LiesAll.weak e2 (A0_le _), e3⟩)))
  have CA := Lib.hid (fun W (k : Kp w W) => (c_owns R1 As aa ac KA W (hA.keep k) hlA).mono (fun (e : Ending) (w' : World) ⟨ad, c, K, e1, e2, e3⟩ => (show ∃ ad c K, e = Ending.returned (.slice ad As.length c) ∧ LiesAll w' A0 R1 As ad c K ∧ Kp W w' from ⟨ad, c, K, e1, LiesAll.weak e2 (A0_le _), e3⟩)))
  have CB := Lib.hid (fun W (k : Kp w W) => (c_owns R2 Bs ba bc KB W (hB.keep k) hlB).mono (fun (e : Ending) (w' : World) ⟨ad, c, K, e1, e2, e3⟩ => (show ∃ ad c K, e = Ending.returned (.slice ad Bs.length c) ∧ LiesAll w' A0 R2 Bs ad c K ∧ Kp W w' from ⟨ad, c, K, e1, LiesAll.weak e2 (A0_le _), e3⟩)))
  have CU := Lib.hid (fun pa pc K aa ac KA ba bc KB W (h1 : LiesAll W A0 R Ps pa pc K) (h2 : LiesAll W A0 R1 As aa ac KA) (h3 : LiesAll W A0 R2 Bs ba bc KB) => c_InferU R R1 R2 Ps As Bs pa pc K aa ac KA ba bc KB W h1 hlP hnP h2 hlA h3 hlB)
  have CR := Lib.hid (fun W (k : Kp w W) (q : Int) (m : Nat) (r : List Ty) (hv : InfV Ps As Bs q m r) => (c_InferR R R1 R2 Ps As Bs pa pc K aa ac KA ba bc KB W (hP.keep k) hlP (hA.keep k) hlA (hB.keep k) hlB).mono (fun (e : Ending) (w' : World) ⟨q', m', r', ad, c, K, a1, a2, a3, a4⟩ => (show ∃ ad c K, e = Ending.returned (.tuple #[.slice ad r.length c, .int .i64 (m : Nat), .int .i64 q]) ∧ Kp W w' ∧ LiesAll w' A0 9 r ad c K from by
    obtain ⟨rfl, rfl, rfl⟩ := hv.one a1
    exact ⟨ad, c, K, a2, a3, a4⟩)))
  clear hP hA hB hnP
  go_enter Try.func4, Try.ntmps4
  go_wp2_with (first | (go_at_call 10; (with_reducible refine (CP.out _ (Kp.refl w)).mono ?_); rintro e w1 ⟨pa1, pc1, KP1, rfl, hl1, hk1⟩; have HL1 := Lib.hid hl1; have K1 := Lib.hid hk1; clear hl1 hk1) | (go_at_call 10; (with_reducible refine (CA.out _ K1.out).mono ?_); rintro e w2 ⟨aa1, ac1, KA1, rfl, hl2, hk2⟩; have HL2 := Lib.hid hl2; have J12 := Lib.hid hk2; have K2 := Lib.hid (K1.out.trans hk2); clear hl2 hk2) | (go_at_call 10; (with_reducible refine (CB.out _ K2.out).mono ?_); rintro e w3 ⟨ba1, bc1, KB1, rfl, hl3, hk3⟩; have HL3 := Lib.hid hl3; have J23 := Lib.hid hk3; have K3 := Lib.hid (K2.out.trans hk3); clear hl3 hk3) | (go_at_call 14; (with_reducible refine (CU.out _ _ _ _ _ _ _ _ _ _ (HL1.out.keep (J12.out.trans J23.out)) (HL2.out.keep J23.out) HL3.out).mono ?_); rintro e w4 ⟨q, m, r, ad, c, KR, hv, rfl, hk4, hl4⟩; have HV := Lib.hid hv; have HL4 := Lib.hid hl4; have K4 := Lib.hid (K3.out.trans hk4); clear hv hl4 hk4) | (go_at_call 15; (with_reducible refine (CR.out _ K4.out q m r HV.out).mono ?_); rintro e w5 ⟨ad5, c5, K5', rfl, hk5, hl5⟩; have HL5 := Lib.hid hl5; have J45 := Lib.hid hk5; have K5 := Lib.hid (K4.out.trans hk5); clear hl5 hk5) | (go_at_call 12; (with_reducible refine (c_answers w5).mono ?_); rintro e w6 ⟨rfl, hk6⟩; have J56 := Lib.hid hk6; have K6 := Lib.hid (K5.out.trans hk6); clear hk6) | (go_at_call 13; (with_reducible refine (sameall_any r 9 9 ad ad5 c c5 KR K5' r.length r.length w6 rfl rfl (fun i X hX => .inl (HV.out.sound i X hX)) (HL4.out.keep (J45.out.trans J56.out)) (HL5.out.keep J56.out) (by have := HV.out.len; omega)).mono ?_); rintro e w7 ⟨rfl, hk7⟩; have K7 := Lib.hid (K6.out.trans hk7); clear hk7))
  go_ret
  exact ⟨rfl, K7.out⟩
end Go.Proofs.Ytfjflfokmihcpaa
