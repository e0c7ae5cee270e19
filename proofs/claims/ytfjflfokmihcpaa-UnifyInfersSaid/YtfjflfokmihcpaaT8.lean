/- How deep and how large a type is, as a plain function; the reference's Look, Sound. Condition: the type lies in memory. -/
import Derived.Test.YtfjflfokmihcpaaT7
namespace Go.Proofs.Ytfjflfokmihcpaa
open Go.RowKit
set_option linter.unusedVariables false
set_option linter.unusedSimpArgs false

/-- The head of a type as its datum has it. -/
def hdOf (T : Ty) : Hd := ⟨T.k, T.nm, T.con, none, T.fn.length, 0, none, T.nl, 0, none, T.kids.length - T.fn.length - T.nl, 0⟩
noncomputable def fmT (T : Ty) : Bool := fm (hdOf T) T.fn
theorem bare_congr {h h' : Hd} (e2 : h.nm = h'.nm) (e3 : h.con = h'.con) (e4 : h.fl = h'.fl) (e5 : h.ll = h'.ll) (e6 : h.rl = h'.rl) (a b c d e : Bool) : bareB h a b c d e = bareB h' a b c d e := by
  simp only [bareB, e2, e3, e4, e5, e6]
theorem fm_congr {h h' : Hd} {fn : List ByteArray} (e1 : h.k = h'.k) (e2 : h.nm = h'.nm) (e3 : h.con = h'.con) (e4 : h.fl = h'.fl) (e5 : h.ll = h'.ll) (e6 : h.rl = h'.rl) : fm h fn = fm h' fn := by
  unfold fm
  rw [bare_congr e2 e3 e4 e5 e6, bare_congr e2 e3 e4 e5 e6, bare_congr e2 e3 e4 e5 e6, bare_congr e2 e3 e4 e5 e6, bare_congr e2 e3 e4 e5 e6, e1, e2, e3, e4, e5, e6]
theorem Top.fmT {w : World} {B : Sel} {T : Ty} {h : Hd} {K : Nat → Hd} (t : Top w B T h K) : fm h T.fn = fmT T := by
  have := t.es
  have h1 := t.ef
  have h2 := t.el
  exact fm_congr t.ek.symm t.en.symm t.ec.symm t.ef.symm t.el.symm (by show h.rl = T.kids.length - T.fn.length - T.nl; omega)
theorem fm_few {h : Hd} {fn : List ByteArray} (hf : fm h fn = true) : h.fl + h.ll + h.rl ≤ 17 := by
  unfold fm at hf
  split at hf
  · simp [bareB] at hf; omega
  · split at hf
    · simp [bareB] at hf; omega
    · split at hf
      · simp [bareB] at hf; omega
      · split at hf
        · simp [bareB] at hf; omega
        · simp [bareB] at hf; omega

/-- Of all types in a list: the depth and the cells, on top of what was found before. -/
def lookAll (f : Ty → Nat × Nat × Bool) : List Ty → Nat → Nat → Option (Nat × Nat)
  | [], d, c => some (d, c)
  | T :: l, d, c => if (f T).2.2 = true then lookAll f l (max d ((f T).1 + 1)) (c + (f T).2.1) else none
/-- What is told of a type whose parts are of the sizes that were found. -/
def sizeOfT (T : Ty) : Option (Nat × Nat) → Nat × Nat × Bool
  | none => (0, 0, false)
  | some (d, c) => (d, (if T.k = 8 then c else 1), decide ((if T.k = 8 then c else 1) ≤ 64))
/-- The depth, the cells, and whether the type is sound, of at most r - 1 types within one another; g: the sizes that some names stand for. -/
noncomputable def lookG (g : ByteArray → Option (Nat × Nat)) : Nat → Ty → Nat × Nat × Bool
  | 0, T => match (if T.k = 12 then g T.nm else none) with
    | some s => (s.1, s.2, false)
    | none => (0, 0, false)
  | r + 1, T => match (if T.k = 12 then g T.nm else none) with
    | some s => (s.1, s.2, decide (s.1 ≤ r))
    | none => if fmT T = true then sizeOfT T (lookAll (lookG g r) T.kids 0 0) else (0, 0, false)
def noG (s : ByteArray) : Option (Nat × Nat) := none
noncomputable def look : Nat → Ty → Nat × Nat × Bool := lookG noG
theorem lookG_succ {g : ByteArray → Option (Nat × Nat)} {r : Nat} {T : Ty} (h : (if T.k = 12 then g T.nm else none) = none) : lookG g (r + 1) T = if fmT T = true then sizeOfT T (lookAll (lookG g r) T.kids 0 0) else (0, 0, false) := by
  rw [lookG, h]
theorem lookG_zero {g : ByteArray → Option (Nat × Nat)} {T : Ty} (h : (if T.k = 12 then g T.nm else none) = none) : lookG g 0 T = (0, 0, false) := by
  rw [lookG, h]
theorem noG_if (T : Ty) : (if T.k = 12 then noG T.nm else none) = none := by unfold noG; split <;> rfl
theorem look_succ {r : Nat} {T : Ty} : look (r + 1) T = if fmT T = true then sizeOfT T (lookAll (look r) T.kids 0 0) else (0, 0, false) := lookG_succ (noG_if T)
theorem look_zero {T : Ty} : look 0 T = (0, 0, false) := lookG_zero (noG_if T)
/-- All numbers that come up are small. -/
theorem lookAll_bd {f : Ty → Nat × Nat × Bool} {r : Nat} (hf : ∀ T, (f T).2.2 = true → (f T).1 < r ∧ (f T).2.1 ≤ 64) : ∀ {l : List Ty} {d c d' c' : Nat}, lookAll f l d c = some (d', c') → d ≤ r → d' ≤ r ∧ c' ≤ c + 64 * l.length
  | [], d, c, d', c', h, hd => by simp [lookAll] at h; obtain ⟨rfl, rfl⟩ := h; exact ⟨hd, by omega⟩
  | T :: l, d, c, d', c', h, hd => by
    rw [lookAll] at h
    split at h
    · rename_i ho
      have h1 := hf T ho
      have := lookAll_bd hf h (by omega)
      simp only [List.length_cons]
      omega
    · cases h
theorem lookG_bd {g : ByteArray → Option (Nat × Nat)} (hg : ∀ s x, g s = some x → x.1 ≤ 8 ∧ x.2 ≤ 64) : ∀ {r : Nat} {T : Ty}, (lookG g r T).2.2 = true → (lookG g r T).1 < r ∧ (lookG g r T).2.1 ≤ 64
  | 0, T, h => by
    rw [lookG] at h
    split at h <;> simp at h
  | r + 1, T, h => by
    rw [lookG] at h ⊢
    split at h
    · rename_i s hs
      simp at h ⊢
      split at hs
      · exact ⟨by omega, (hg _ _ hs).2⟩
      · cases hs
    · split at h
      · generalize hl : lookAll (lookG g r) T.kids 0 0 = x at h ⊢
        cases x with
        | none => simp [sizeOfT] at h
        | some y =>
          obtain ⟨d, c⟩ := y
          have := lookAll_bd (r := r) (fun T hT => lookG_bd hg hT) hl (by omega)
          simp only [sizeOfT, decide_eq_true_eq] at h
          rename_i hf
          simp only [sizeOfT, if_pos hf]
          exact ⟨by omega, h⟩
      · simp at h
theorem look_bd {r : Nat} {T : Ty} (h : (look r T).2.2 = true) : (look r T).1 < r ∧ (look r T).2.1 ≤ 64 := lookG_bd (fun s x h => by cases h) h
theorem lookAll_next {f : Ty → Nat × Nat × Bool} {l : List Ty} {n d c : Nat} {X : Ty} (hX : l[n]? = some X) (ho : (f X).2.2 = true) : lookAll f (l.drop n) d c = lookAll f (l.drop (n + 1)) (max d ((f X).1 + 1)) (c + (f X).2.1) := by
  obtain ⟨hn, hx⟩ := List.getElem?_eq_some_iff.1 hX
  rw [List.drop_eq_getElem_cons hn, hx, lookAll, if_pos ho]
theorem lookAll_stop {f : Ty → Nat × Nat × Bool} {l : List Ty} {n d c : Nat} {X : Ty} (hX : l[n]? = some X) (ho : (f X).2.2 = false) : lookAll f (l.drop n) d c = none := by
  obtain ⟨hn, hx⟩ := List.getElem?_eq_some_iff.1 hX
  rw [List.drop_eq_getElem_cons hn, hx, lookAll, if_neg (by rw [ho]; decide)]
theorem lookAll_end {f : Ty → Nat × Nat × Bool} {l : List Ty} {d c : Nat} : lookAll f (l.drop l.length) d c = some (d, c) := by
  rw [List.drop_length]; rfl

/-- What Look answers. -/
def szv (s : Nat × Nat × Bool) : Value := .tuple #[.int .i64 s.1, .int .i64 s.2.1, .bool s.2.2]
theorem szv3 {d c : Nat} {x y : Bool} (h2 : x = y) : szv (d, c, x) = .tuple #[.int .i64 d, .int .i64 c, .bool y] := by subst h2; rfl
set_option maxHeartbeats 1600000 in
set_option maxRecDepth 100000 in
theorem c_Look : ∀ (r R : Nat) (T : Ty) (h : Hd) (w : World) (l : Int), Lies w A0 R T h → l = (r : Int) - 1 → r ≤ 9 →
    Calls Try.prog 35 #[h.val, .int .i64 l] w fun e w' => e = .returned (szv (look r T)) ∧ Kp w w' := by
  intro r
  induction r with
  | zero =>
    intro R T h w l hl hr hr9
    have hl0 : l < 0 := by omega
    have hd : decide (l < 0) = true := decide_eq_true hl0
    clear hr hl
    rw [look_zero]
    go_enter Try.func35, Try.ntmps35
    go_wp2_with fail
    go_ret3
    exact ⟨rfl, (Kp.refl w).alloc _⟩
  | succ r ih =>
    intro R T h w l hl hr hr9
    cases R with
    | zero => exact hl.elim
    | succ R =>
      obtain ⟨K, t, hh⟩ := hl
      have ht := Lib.hid t
      have hL := Lib.hid hh
      have IH := Lib.hid ih
      have e1 := t.fmT
      have hl0 : 0 ≤ l := by omega
      have hl8 : l ≤ 8 := by omega
      have HL := Lib.hid hr
      have HE := Lib.hid t.es
      clear t hh ih hr
      rw [look_succ]
      cases c1 : fmT T with
      | false =>
        rw [c1] at e1
        rw [if_neg (by decide)]
        go_enter Try.func35, Try.ntmps35
        go_wp2_with (first | (go_at_call 48; (with_reducible refine (c_shape T h K _ (ht.out.keep ((Kp.refl w).alloc _))).mono ?_); rintro e w' ⟨rfl, hk1⟩; rw [e1]))
        go_ret3
        exact ⟨rfl, ((Kp.refl w).alloc _).trans hk1⟩
      | true =>
        rw [c1] at e1
        have hfew := fm_few e1
        have hlen : T.kids.length ≤ 17 := by rw [← HE.out]; exact hfew
        rw [if_pos rfl]
        go_enter Try.func35, Try.ntmps35
        go_wp2_with (first | (go_at_call 48; (with_reducible refine (c_shape T h K _ (ht.out.keep ((Kp.refl w).alloc _))).mono ?_); rintro e w' ⟨rfl, hk1⟩; obtain ⟨p0, p1, p2, p3, p4, p5, ps⟩ := boxed hk1; rw [e1]) | (go_at_call 34; refine (c_Inner T h K _ (ht.out.keep (((Kp.refl w).alloc _).trans hk1)) (by omega)).mono ?_; rintro e w' ⟨ad, c, rfl, htab, hk2⟩))
        obtain ⟨b, o, hab⟩ : ∃ b o, Hid ((0 < T.kids.length → ad = some ⟨b, o, none⟩) ∧ ∀ i, i < T.kids.length → w'.rangeAt b (o + i * 6) (K i).cells) := by
          by_cases h0 : 0 < T.kids.length
          · obtain ⟨b, o, ha, hr⟩ := htab.at h0
            exact ⟨b, o, Lib.hid ⟨fun _ => ha, hr⟩⟩
          · exact ⟨0, 0, Lib.hid ⟨fun h => absurd h h0, fun i hi => absurd hi (by omega)⟩⟩
        clear htab
        go_loopw [8, 9, 10] (fun d c i wr => ∃ n d' c' : Nat, n ≤ T.kids.length ∧ i = .int .i64 n ∧ d = .int .i64 d' ∧ c = .int .i64 c' ∧ d' ≤ r ∧ c' ≤ 64 * n ∧ Hid (lookAll (look r) T.kids 0 0 = lookAll (look r) (T.kids.drop n) d' c') ∧ Kp w' wr) (fun _ _ i _ => T.kids.length - (intOf i).toNat)
        case atStart => exact ⟨0, 0, 0, by omega, rfl, rfl, rfl, by omega, by omega, Lib.hid rfl, Kp.refl _⟩
        case round =>
          obtain ⟨n, d', c', hn, rfl, rfl, rfl, hd, hc, HA, hkr⟩ := hrel
          obtain ⟨q0, q1, q2, q3, q4, q5, qs⟩ := boxed (Kp.trans hk1 (Kp.trans hk2 hkr))
          by_cases hlt : n < T.kids.length
          · obtain ⟨X, hX⟩ : ∃ X, T.kids[n]? = some X := ⟨_, List.getElem?_eq_getElem hlt⟩
            have HX := Lib.hid hX
            clear hX
            obtain ⟨s1, s2, s3, hss⟩ : ∃ s1 s2 s3, look r X = (s1, s2, s3) := ⟨_, _, _, rfl⟩
            have HS := Lib.hid hss
            clear hss
            have hLX := Lib.hid (hL.out n X HX.out)
            have CX : Hid (∀ (W : World) (l' : Int), Lies W A0 R X (K n) → l' = (r : Int) - 1 → Calls Try.prog 35 #[(K n).val, .int .i64 l'] W fun e w' => e = .returned (.tuple #[.int .i64 s1, .int .i64 s2, .bool s3]) ∧ Kp W w') :=
              Lib.hid (fun W l' a b => (IH.out R X (K n) W l' a b (by omega)).mono fun e w' q => ⟨q.1.trans (by rw [HS.out]; rfl), q.2⟩)
            have HKW := Lib.hid (Kp.trans (Kp.trans ((Kp.refl w).alloc (.cells #[.int .i64 h.k, .string h.nm, .int .i64 h.con, .slice h.fa h.fl h.fc, .slice h.la h.ll h.lc, .slice h.ra h.rl h.rc] 42)) hk1) (Kp.trans hk2 hkr))
            cases s3 with
            | false =>
              have hfin := Lib.hid (show szv (sizeOfT T (lookAll (look r) T.kids 0 0)) = .tuple #[.int .i64 0, .int .i64 0, .bool false] by rw [HA.out, lookAll_stop HX.out (by rw [HS.out])]; rfl)
              go_wp2_with (first | ((with_reducible show wpList _ _ _ (⟨some 32, _, _, _, _, _⟩ :: _) _ _); refine wpList_index_tab (d := 32) _ _ _ rfl 42 Try.underlying23 6 rfl _ _ _ _ o (by rfl) (hab.out.1 (by omega)) n (by rfl) hlt ?_) | ((with_reducible show wpList _ _ _ (⟨some 33, _, _, _, _, _⟩ :: _) _ _); refine wpList_load_ty (d := 33) _ _ rfl _ Try.underlying42 w' _ _ b (o + n * 6) (by rfl) rfl (by first | rfl | omega) (K n) (hab.out.2 n hlt) hkr rfl ?_) | (go_at_call 35; refine (CX.out _ _ (hLX.out.keep HKW.out) (by have := HL.out; omega)).mono ?_; rintro e w4 ⟨rfl, hk4⟩))
              go_ret3
              exact ⟨(congrArg Ending.returned hfin.out).symm, Kp.trans HKW.out hk4⟩
            | true =>
              have hbd := look_bd (r := r) (T := X) (by rw [HS.out])
              have hb1 : s1 < r := by have := hbd.1; rwa [HS.out] at this
              have hb2 : s2 ≤ 64 := by have := hbd.2; rwa [HS.out] at this
              have hnx := Lib.hid (show lookAll (look r) T.kids 0 0 = lookAll (look r) (T.kids.drop (n + 1)) (max d' (s1 + 1)) (c' + s2) by rw [HA.out, lookAll_next HX.out (by rw [HS.out]), HS.out])
              clear hbd
              by_cases hmx : d' < s1 + 1
              · go_wp2_with (first | ((with_reducible show wpList _ _ _ (⟨some 32, _, _, _, _, _⟩ :: _) _ _); refine wpList_index_tab (d := 32) _ _ _ rfl 42 Try.underlying23 6 rfl _ _ _ _ o (by rfl) (hab.out.1 (by omega)) n (by rfl) hlt ?_) | ((with_reducible show wpList _ _ _ (⟨some 33, _, _, _, _, _⟩ :: _) _ _); refine wpList_load_ty (d := 33) _ _ rfl _ Try.underlying42 w' _ _ b (o + n * 6) (by rfl) rfl (by first | rfl | omega) (K n) (hab.out.2 n hlt) hkr rfl ?_) | (go_at_call 35; refine (CX.out _ _ (hLX.out.keep HKW.out) (by have := HL.out; omega)).mono ?_; rintro e w4 ⟨rfl, hk4⟩))
                go_roundw
                case rel => exact ⟨n + 1, s1 + 1, c' + s2, by omega, by go_num, by go_num, by go_num, by omega, by omega, Lib.hid (by rw [hnx.out, Nat.max_eq_right (by omega)]), hkr.trans hk4⟩
                case measure => simp [intOf]; omega
              · go_wp2_with (first | ((with_reducible show wpList _ _ _ (⟨some 32, _, _, _, _, _⟩ :: _) _ _); refine wpList_index_tab (d := 32) _ _ _ rfl 42 Try.underlying23 6 rfl _ _ _ _ o (by rfl) (hab.out.1 (by omega)) n (by rfl) hlt ?_) | ((with_reducible show wpList _ _ _ (⟨some 33, _, _, _, _, _⟩ :: _) _ _); refine wpList_load_ty (d := 33) _ _ rfl _ Try.underlying42 w' _ _ b (o + n * 6) (by rfl) rfl (by first | rfl | omega) (K n) (hab.out.2 n hlt) hkr rfl ?_) | (go_at_call 35; refine (CX.out _ _ (hLX.out.keep HKW.out) (by have := HL.out; omega)).mono ?_; rintro e w4 ⟨rfl, hk4⟩))
                go_roundw
                case rel => exact ⟨n + 1, d', c' + s2, by omega, by go_num, rfl, by go_num, by omega, by omega, Lib.hid (by rw [hnx.out, Nat.max_eq_left (by omega)]), hkr.trans hk4⟩
                case measure => simp [intOf]; omega
          · have hfin := Lib.hid (show lookAll (look r) T.kids 0 0 = some (d', c') by rw [HA.out, show n = T.kids.length from by omega]; exact lookAll_end)
            have hnn : (T.kids.length : Int) ≤ n := by omega
            have hc2 : c' ≤ 1088 := by omega
            by_cases hk8 : h.k = 8
            · have b8 : (h.k != 8) = false := by simp [hk8]
              have hend := Lib.hid (show szv (sizeOfT T (lookAll (look r) T.kids 0 0)) = .tuple #[.int .i64 d', .int .i64 c', .bool (decide ((c' : Int) ≤ 64))] by
                rw [hfin.out, sizeOfT, if_pos (ht.out.ek.trans hk8)]; exact szv3 (decide_eq_decide.2 (by omega)))
              go_wp2_with fail
              go_ret3
              exact ⟨(congrArg Ending.returned hend.out).symm, ((Kp.refl w).alloc _).trans (Kp.trans hk1 (Kp.trans hk2 hkr))⟩
            · have b8 : (h.k != 8) = true := by simp [hk8]
              have hend := Lib.hid (show szv (sizeOfT T (lookAll (look r) T.kids 0 0)) = .tuple #[.int .i64 d', .int .i64 1, .bool true] by
                rw [hfin.out, sizeOfT, if_neg (fun e => hk8 (ht.out.ek.symm.trans e))]; rfl)
              go_wp2_with fail
              go_ret3
              exact ⟨(congrArg Ending.returned hend.out).symm, ((Kp.refl w).alloc _).trans (Kp.trans hk1 (Kp.trans hk2 hkr))⟩
theorem c_Sound (R : Nat) (T : Ty) (h : Hd) (w : World) (hl : Lies w A0 R T h) : Calls Try.prog 21 #[h.val] w fun e w' => e = .returned (.bool (look 9 T).2.2) ∧ Kp w w' := by
  have HL := Lib.hid hl
  clear hl
  obtain ⟨s1, s2, s3, hss⟩ : ∃ s1 s2 s3, look 9 T = (s1, s2, s3) := ⟨_, _, _, rfl⟩
  have HS := Lib.hid hss
  clear hss
  have CX : Hid (∀ (W : World), Lies W A0 R T h → Calls Try.prog 35 #[h.val, .int .i64 8] W fun e w' => e = .returned (.tuple #[.int .i64 s1, .int .i64 s2, .bool s3]) ∧ Kp W w') :=
    Lib.hid (fun W a => (c_Look 9 R T h W 8 a (by rfl) (by omega)).mono fun e w' q => ⟨q.1.trans (by rw [HS.out]; rfl), q.2⟩)
  go_enter Try.func21, Try.ntmps21
  go_wp2_with (first | (go_at_call 35; refine (CX.out _ (HL.out.keep ((Kp.refl w).alloc _))).mono ?_; rintro e w4 ⟨rfl, hk4⟩))
  go_ret
  exact ⟨ret_bool (by rw [HS.out]), ((Kp.refl w).alloc _).trans hk4⟩
end Go.Proofs.Ytfjflfokmihcpaa
