/- A map by texts whose size is told; the matcher as it is made; whether all types of a row are sound. Condition: what is named lies in memory. -/
import Derived.Test.YtfjflfokmihcpaaUb
import Derived.Test.YtfjflfokmihcpaaT10
namespace Go.Proofs.Ytfjflfokmihcpaa
open Go.RowKit
open Go.Maps (Keyed)
open Go.WideMaps
set_option linter.unusedVariables false
set_option linter.unusedSimpArgs false
/-- Block b is a map of just m entries that holds f. -/
def MapSz (w : World) (P : Program) (k : TypeId) (b m : Nat) (f : ByteArray → Option Value) : Prop :=
  ∃ D : DataW Value, w.ownsMap P k hR b m D ∧ (∀ s z, D.atKey (kl s) z = ((f s).map DataW.held).getD z) ∧ Maps.size D = m
theorem MapSz.is {w : World} {P : Program} {k : TypeId} {b m : Nat} {f : ByteArray → Option Value} (h : MapSz w P k b m f) : MapIs w P k b m f := by
  obtain ⟨D, h1, h2, _⟩ := h
  exact ⟨D, h1, h2⟩
theorem mapSz_made (w : World) (P : Program) (k : TypeId) : MapSz (w.alloc (.map #[] 0)) P k w.heap.size 0 (fun _ => none) :=
  ⟨.map [], World.ownsMap_made w P k hR, fun s z => rfl, rfl⟩
theorem MapSz.len {w : World} {P : Program} {k t e : TypeId} {b m : Nat} {f : ByteArray → Option Value} (h : MapSz w P k b m f) (ht : P.underlying t = some (.map k e)) (ty : TypeId) : (Builtin.len_ #[t] ty #[.map (some b)]).run P w = .ok (.int .i64 m) w := by
  obtain ⟨D, h1, _, h3⟩ := h
  rw [h1.len ht ty, h3]
theorem MapSz.keep {w w' : World} {P : Program} {k : TypeId} {b m : Nat} {f : ByteArray → Option Value} (h : MapSz w P k b m f) (hk : Kp w w') : MapSz w' P k b m f := by
  obtain ⟨D, h1, h2, h3⟩ := h
  have hlt := h1.lt
  obtain ⟨es, clock, hb, r⟩ := h1
  exact ⟨D, ⟨es, clock, (hk.blk hlt).trans hb, r⟩, h2, h3⟩
/-- 'm[s] = u': one more, if s was not there. -/
theorem wpList_map_setZ {P : Program} {w : World} {ops : Array Oper} {rest : List Oper} {a : Act} {Q : Exit → Act → World → Prop} {d : Option Tmp} {op : Op} {ty : TypeId} {pos : String} {af : Array Edge} (m x v : Operand) (t k e : TypeId) (hop : op = Op.mapUpdate t m x v) (hk : P.underlying k = some .string) (ht : P.underlying t = some (.map k e))
    (b n : Nat) (f : ByteArray → Option Value) (hm : a.eval m = .map (some b)) (h : MapSz w P k b n f) (hn : n < maxLen) (s : ByteArray) (hx : a.eval x = .string s) (hs : s.size ≤ maxLen) (u : Value) (hv : a.eval v = u)
    (hK : ∀ w', MapSz w' P k b (if (f s).isSome = true then n else n + 1) (fput f s u) → w.grownBy w' (some b) → wpList P ops Q rest (a.put d undef) w') : wpList P ops Q (⟨d, op, ty, pos, af, none⟩ :: rest) a w := by
  subst hop
  obtain ⟨D, h1, h2, h3⟩ := h
  have key : keyOf P k (.string s) = some (kl s) := keyOf_string_mk hk hs
  have hh : Maps.has D (kl s) = (f s).isSome := by
    cases hf : f s with
    | none => exact Maps.has_false_of_atKey fun z => by rw [h2, hf]; rfl
    | some u => exact Maps.has_true_of_atKey (y := .held u) fun z => by rw [h2, hf]; rfl
  have hsz : Maps.size (D.put (kl s) (.held u)) = if (f s).isSome = true then n else n + 1 := by
    rw [Maps.size_put (h1.tidy (Maps.string_keyed hk)), hh, h3]
  refine wpList_mapUpdate_own w rfl m x v t rfl k e (Maps.string_keyed hk) ht hR b n D hm h1 hn (.string s) u (kl s) hx hv key (.held u) [] rfl fun w' g1 g2 => hK w' ⟨_, ?_, fun y z => ?_, hsz⟩ g2
  · obtain ⟨es, clock, q1, q2, q3, q4⟩ := g1
    refine ⟨es, clock, q1, q2, ?_, q4⟩
    have : Maps.size (D.put (kl s) (.held u)) = es.size := by rw [q4]; simp [Maps.size, length_sorted]
    omega
  · by_cases hy : y = s
    · subst hy
      rw [fput_same, Maps.atKey_put_same h1.isMap (show WideAt.IsKeyLit (kl y) from trivial)]
      rfl
    · rw [fput_other f u hy, Maps.atKey_put_other (fun e => hy (kl_inj e)), h2]
set_option maxHeartbeats 3200000 in
/-- The matcher, as it is made. -/
theorem c_matcher (bm : Nat) (w : World) (hb : bm < w.heap.size) : Calls Try.prog 37 #[.map (some bm)] w fun e w' => ∃ bs bM bF bL, e = .returned (.func (.func 51) #[] #[.pointer (some ⟨bs, 0, none⟩), .pointer (some ⟨bF, 0, none⟩), .pointer (some ⟨bL, 0, none⟩)]) ∧ EnvM bm bs bM bF bL w' ∧ Kp w w' := by
  go_enter Try.func37, Try.ntmps37
  go_wp2_with fail
  go_ret
  refine ⟨w.heap.size, w.heap.size + 1, w.heap.size + 1 + 1, w.heap.size + 1 + 1 + 1, rfl, ⟨?_, ?_, ?_, ?_, by omega, by omega, by omega, by omega⟩, ?_⟩
  · simp [go_sem]
  · simp [go_sem]
  · simp [go_sem]
  · simp [go_sem]
  · exact ((((Kp.refl w).alloc _).alloc _).alloc _).alloc _
/-- Each of them is sound. -/
noncomputable def allS (As : List Ty) : Bool := As.all (fun A => (look 9 A).2.2)
theorem allS_no {As : List Ty} {n : Nat} {X : Ty} (hX : As[n]? = some X) (h : (look 9 X).2.2 = false) : allS As = false := by
  apply Bool.eq_false_iff.2
  intro ha
  have := List.all_eq_true.1 ha X (List.mem_of_getElem? hX)
  rw [h] at this
  cases this
theorem allS_yes {As : List Ty} (h : ∀ (j : Nat) (X : Ty), As[j]? = some X → (look 9 X).2.2 = true) : allS As = true := List.all_eq_true.2 (fun X hX => by
  obtain ⟨j, hj, e⟩ := List.getElem_of_mem hX
  exact h j X (by rw [List.getElem?_eq_getElem hj, e]))
theorem allS_at {As : List Ty} (h : allS As = true) {j : Nat} {X : Ty} (hX : As[j]? = some X) : (look 9 X).2.2 = true := List.all_eq_true.1 h X (List.mem_of_getElem? hX)
set_option maxHeartbeats 3200000 in
theorem c_areSound (R : Nat) (As : List Ty) (ad : Option Addr) (c : Nat) (K : Nat → Hd) (w : World) (hl : LiesAll w A0 R As ad c K) (hb : As.length * 104 ≤ 140737488351232) :
    Calls Try.prog 36 #[.slice ad As.length c] w fun e w' => e = .returned (.bool (allS As)) ∧ Kp w w' := by
  have HL := Lib.hid hl
  clear hl
  go_enter Try.func36, Try.ntmps36
  go_wp2_with fail
  go_loopw [7] (fun i wr => ∃ n : Nat, n ≤ As.length ∧ i = .int .i64 n ∧ (∀ j X, j < n → As[j]? = some X → (look 9 X).2.2 = true) ∧ Kp w wr) (fun i _ => As.length - (intOf i).toNat)
  case atStart => exact ⟨0, by omega, rfl, fun j X hj => absurd hj (by omega), Kp.refl _⟩
  case round =>
    obtain ⟨n, hn, rfl, hok, hkr⟩ := hrel
    have HOK := Lib.hid hok
    have HKR := Lib.hid hkr
    clear hok hkr
    by_cases hlt : n < As.length
    · obtain ⟨b, o, ha, hr⟩ := HL.out.1.at (by omega)
      have HA := Lib.hid ha
      have HR := Lib.hid (hr n hlt)
      clear ha hr
      obtain ⟨X, hX⟩ : ∃ X, As[n]? = some X := ⟨_, List.getElem?_eq_getElem hlt⟩
      have HX := Lib.hid hX
      clear hX
      have CC := Lib.hid (fun W (k : Kp w W) => c_Check R X (K n) W ((HL.out.2 n X HX.out).keep k))
      cases hs : (look 9 X).2.2 with
      | false =>
        have HN := Lib.hid (allS_no HX.out hs)
        have HS := Lib.hid (show ef (look 9 X).2.2 = 1 by rw [hs]; rfl)
        clear hs
        go_wp2_with (first | ((with_reducible show wpList _ _ _ (⟨some 9, _, _, _, _, _⟩ :: _) _ _); refine wpList_index_tab (d := 9) _ _ _ rfl 42 Try.underlying23 6 rfl _ _ _ _ o (by rfl) HA.out n (by rfl) hlt ?_) | ((with_reducible show wpList _ _ _ (⟨some 10, _, _, _, _, _⟩ :: _) _ _); refine wpList_load_ty (d := 10) _ _ rfl _ Try.underlying42 w _ _ b (o + n * 6) (by rfl) rfl (by first | rfl | omega) (K n) HR.out HKR.out rfl ?_) | (go_at_call 29; refine (CC.out _ (HKR.out.alloc _)).mono ?_; rintro e w6 ⟨rfl, hk6⟩; rw [HS.out]))
        go_ret
        exact ⟨ret_bool HN.out.symm, (HKR.out.alloc _).trans hk6⟩
      | true =>
        have HS := Lib.hid (show ef (look 9 X).2.2 = 0 by rw [hs]; rfl)
        have HT := Lib.hid hs
        clear hs
        go_wp2_with (first | ((with_reducible show wpList _ _ _ (⟨some 9, _, _, _, _, _⟩ :: _) _ _); refine wpList_index_tab (d := 9) _ _ _ rfl 42 Try.underlying23 6 rfl _ _ _ _ o (by rfl) HA.out n (by rfl) hlt ?_) | ((with_reducible show wpList _ _ _ (⟨some 10, _, _, _, _, _⟩ :: _) _ _); refine wpList_load_ty (d := 10) _ _ rfl _ Try.underlying42 w _ _ b (o + n * 6) (by rfl) rfl (by first | rfl | omega) (K n) HR.out HKR.out rfl ?_) | (go_at_call 29; refine (CC.out _ (HKR.out.alloc _)).mono ?_; rintro e w6 ⟨rfl, hk6⟩; rw [HS.out]))
        go_roundw
        case rel => exact ⟨n + 1, by omega, by go_num, fun j Y hj hY => by
          by_cases e : j = n
          · subst e; rw [HX.out] at hY; cases hY; exact HT.out
          · exact HOK.out j Y (by omega) hY, (HKR.out.alloc _).trans hk6⟩
        case measure => simp [intOf]; omega
    · have hz : ¬ ((n : Int) < (As.length : Int)) := by omega
      have HN := Lib.hid (allS_yes (As := As) (fun j X hX => HOK.out j X (by have := (List.getElem?_eq_some_iff.1 hX).1; omega) hX))
      go_wp2_with fail
      go_ret
      exact ⟨ret_bool HN.out.symm, HKR.out⟩
end Go.Proofs.Ytfjflfokmihcpaa
