/- How deep and how large a type is, in package types: gaugeWith, gauge, Check, Cells, Depth. Condition: the type lies in memory. -/
import Derived.Test.YtfjflfokmihcpaaT9
import Derived.Laws.EntriesVeiled
namespace Go.Proofs.Ytfjflfokmihcpaa
open Go.RowKit
set_option linter.unusedVariables false
set_option linter.unusedSimpArgs false

theorem sel_of {g : ByteArray → Option (Nat × Nat)} {w : World} {B : Sel} {T : Ty} {h : Hd} {K : Nat → Hd} (t : Top w B T h K) (hp : (if T.k = 12 then g T.nm else none) = none) : ∃ u1 u2 ok, Sel0 g h u1 u2 ok := by
  have he := t.en
  have hk := t.ek
  cases hgs : g h.nm with
  | none => exact ⟨0, 0, false, by unfold gmap; rw [hgs]; rfl, by unfold gmap; rw [hgs]; rfl, .inl rfl⟩
  | some s =>
    refine ⟨s.1, s.2, true, by unfold gmap; rw [hgs]; rfl, by unfold gmap; rw [hgs]; rfl, .inr ⟨rfl, ?_⟩⟩
    rw [beq_eq_false_iff_ne]
    intro e
    rw [if_pos (hk.trans e), he, hgs] at hp
    cases hp
theorem c_look (bg bl : Nat) (gm : Option Nat) (g : ByteArray → Option (Nat × Nat)) (hg : ∀ s x, g s = some x → x.1 ≤ 8 ∧ x.2 ≤ 64) : ∀ (r R : Nat) (T : Ty) (h : Hd) (w : World) (l : Int), Env w bg bl gm g → Lies w A0 R T h → l = (r : Int) - 1 → r ≤ 9 →
    Calls Try.prog 43 #[h.val, .int .i64 l, .pointer (some ⟨bg, 0, none⟩), .pointer (some ⟨bl, 0, none⟩)] w fun e w' => e = .returned (szw (lookG g r T)) ∧ Kp w w' := by
  intro r
  induction r with
  | zero =>
    intro R T h w l hE hl hr hr9
    cases R with
    | zero => exact hl.elim
    | succ R =>
      obtain ⟨K, t, hh⟩ := hl
      by_cases hp : (if T.k = 12 then g T.nm else none) = none
      · have hs : ∃ u1 u2 ok, Sel0 g h u1 u2 ok := sel_of t hp
        obtain ⟨u1, u2, ok, hS⟩ := hs
        rw [lookG_zero hp]
        exact l_neg bg bl gm g h w l u1 u2 ok hE hS t.rn (by omega)
      · obtain ⟨⟨d, c⟩, hs⟩ := Option.ne_none_iff_exists'.1 hp
        have hk : T.k = 12 := Classical.byContradiction fun hk => by rw [if_neg hk] at hs; cases hs
        have hgs := hs
        rw [if_pos hk, t.en] at hgs
        refine (l_param bg bl gm g hg h w l d c hE (t.ek.symm.trans hk) hgs t.rn).mono fun e w' q => ⟨q.1.trans ?_, q.2⟩
        rw [lookG, hs, decide_eq_false (by omega)]
        rfl
  | succ r ih =>
    intro R T h w l hE hl hr hr9
    cases R with
    | zero => exact hl.elim
    | succ R =>
      obtain ⟨K, t, hh⟩ := hl
      by_cases hp : (if T.k = 12 then g T.nm else none) = none
      · obtain ⟨u1, u2, ok, hS⟩ := sel_of t hp
        rw [lookG_succ hp]
        cases hf : fmT T with
        | false =>
          rw [if_neg (by decide)]
          exact l_bad bg bl gm g T K h w l u1 u2 ok hE hS t (by omega) (t.fmT.trans hf)
        | true =>
          rw [if_pos rfl]
          exact l_main bg bl gm g hg r R T K h w l u1 u2 ok hE hS t hh (by omega) (by omega) (t.fmT.trans hf) (fun X hx W l' a b c => ih R X hx W l' a b c (by omega))
      · obtain ⟨⟨d, c⟩, hs⟩ := Option.ne_none_iff_exists'.1 hp
        have hk : T.k = 12 := Classical.byContradiction fun hk => by rw [if_neg hk] at hs; cases hs
        have hgs := hs
        rw [if_pos hk, t.en] at hgs
        refine (l_param bg bl gm g hg h w l d c hE (t.ek.symm.trans hk) hgs t.rn).mono fun e w' q => ⟨q.1.trans ?_, q.2⟩
        rw [lookG, hs]
        exact congrArg Ending.returned (szw3 (decide_eq_decide.2 (by simp only; omega))).symm

theorem env_at (w : World) (gm : Option Nat) (g : ByteArray → Option (Nat × Nat)) (hm : MapOpt w Try.prog 9 gm (gmap g)) (A C : Obj) (t1 t2 : TypeId) :
    Env ((((w.alloc A).alloc (.cells #[.map gm] t1)).alloc C).alloc (.cells #[.func (.func 43) #[] #[.pointer (some ⟨w.heap.size + 1, 0, none⟩), .pointer (some ⟨w.heap.size + 1 + 1 + 1, 0, none⟩)]] t2)) (w.heap.size + 1) (w.heap.size + 1 + 1 + 1) gm g := by
  have e1 : (((w.alloc A).alloc (.cells #[.map gm] t1)).alloc C).heap.size = w.heap.size + 1 + 1 + 1 := by simp
  have e2 : (w.alloc A).heap.size = w.heap.size + 1 := by simp
  refine ⟨?_, ?_, hm.keep ((((Kp.refl w).alloc _).alloc _).alloc _ |>.alloc _)⟩
  · have h0 : ((w.alloc A).alloc (.cells #[.map gm] t1)).cell? ⟨w.heap.size + 1, 0, none⟩ = some (.map gm) := by
      rw [← e2, cell_of_row _ _ _ _ t1 (0, 0) (heap_alloc_new _ _)]; rfl
    exact (((Kp.refl _).alloc _).alloc _).cellv h0
  · rw [← e1, cell_of_row _ _ _ _ t2 (0, 0) (heap_alloc_new _ _)]; rfl
/-- What gauge answers: the size and OK, or nothing and ErrForm. -/
def gz (s : Nat × Nat × Bool) : Value := if s.2.2 = true then .tuple #[.agg #[.int .i64 s.1, .int .i64 s.2.1], .int .i64 0] else .tuple #[.agg #[.int .i64 0, .int .i64 0], .int .i64 1]
set_option maxHeartbeats 1600000 in
theorem c_gaugeWith (R : Nat) (T : Ty) (h : Hd) (w : World) (gm : Option Nat) (g : ByteArray → Option (Nat × Nat)) (hg : ∀ s x, g s = some x → x.1 ≤ 8 ∧ x.2 ≤ 64) (hm : MapOpt w Try.prog 9 gm (gmap g)) (hl : Lies w A0 R T h) :
    Calls Try.prog 31 #[h.val, .map gm] w fun e w' => e = .returned (gz (lookG g 9 T)) ∧ Kp w w' := by
  have HL := Lib.hid hl
  have HM := Lib.hid hm
  clear hl hm
  obtain ⟨s1, s2, s3, hss⟩ : ∃ s1 s2 s3, lookG g 9 T = (s1, s2, s3) := ⟨_, _, _, rfl⟩
  have HS := Lib.hid hss
  clear hss
  have CX : Hid (∀ (W : World) (bg bl : Nat), Env W bg bl gm g → Lies W A0 R T h → Calls Try.prog 43 #[h.val, .int .i64 8, .pointer (some ⟨bg, 0, none⟩), .pointer (some ⟨bl, 0, none⟩)] W fun e w' => e = .returned (.tuple #[.agg #[.int .i64 s1, .int .i64 s2], .bool s3]) ∧ Kp W w') :=
    Lib.hid (fun W bg bl a b => (c_look bg bl gm g hg 9 R T h W 8 a b (by rfl) (by omega)).mono fun e w' q => ⟨q.1.trans (by rw [HS.out]; rfl), q.2⟩)
  have hend := Lib.hid (show gz (lookG g 9 T) = (if s3 = true then .tuple #[.agg #[.int .i64 s1, .int .i64 s2], .int .i64 0] else .tuple #[.agg #[.int .i64 0, .int .i64 0], .int .i64 1]) by rw [HS.out]; rfl)
  cases s3 with
  | false =>
    go_enter Try.func31, Try.ntmps31
    go_wp2_with (first | (go_at_call 43; refine (CX.out _ _ _ (env_at w gm g HM.out _ _ _ _) (HL.out.keep ((((Kp.refl w).alloc _).alloc _).alloc _ |>.alloc _))).mono ?_; rintro e w6 ⟨rfl, hk6⟩; obtain ⟨x0, x1, xf, xs⟩ := box2 (Kp.trans ((Kp.refl _).alloc _) hk6); simp only [World.size_alloc] at x0 x1 xf xs; have xl : w.heap.size + 1 + 1 < w6.heap.size := xs))
    exact bodyPost_ret (v := .tuple #[.agg #[.int .i64 0, .int .i64 0], .int .i64 1]) (by simp [results, Try.results31, go_sem, x0, x1, xl]) rfl ⟨congrArg Ending.returned hend.out.symm, (by repeat (first | exact ((((Kp.refl w).alloc _).alloc _).alloc _ |>.alloc _).trans hk6 | refine Kp.alloc ?_ _ | refine Kp.setCell ?_ (by (first | (simp; done) | (simp; omega))) _))⟩
  | true =>
    go_enter Try.func31, Try.ntmps31
    go_wp2_with (first | (go_at_call 43; refine (CX.out _ _ _ (env_at w gm g HM.out _ _ _ _) (HL.out.keep ((((Kp.refl w).alloc _).alloc _).alloc _ |>.alloc _))).mono ?_; rintro e w6 ⟨rfl, hk6⟩; obtain ⟨x0, x1, xf, xs⟩ := box2 (Kp.trans ((Kp.refl _).alloc _) hk6); simp only [World.size_alloc] at x0 x1 xf xs; have xl : w.heap.size + 1 + 1 < w6.heap.size := xs))
    exact bodyPost_ret (v := .tuple #[.agg #[.int .i64 s1, .int .i64 s2], .int .i64 0]) (by simp [results, Try.results31, go_sem, x0, x1, xl]) rfl ⟨congrArg Ending.returned hend.out.symm, (by repeat (first | exact ((((Kp.refl w).alloc _).alloc _).alloc _ |>.alloc _).trans hk6 | refine Kp.alloc ?_ _ | refine Kp.setCell ?_ (by (first | (simp; done) | (simp; omega))) _))⟩
/-- The three parts of what gauge answers. -/
def gd (s : Nat × Nat × Bool) : Nat := if s.2.2 = true then s.1 else 0
def gc (s : Nat × Nat × Bool) : Nat := if s.2.2 = true then s.2.1 else 0
def ef (b : Bool) : Int := if b = true then 0 else 1
theorem gz_eq (s : Nat × Nat × Bool) : gz s = .tuple #[.agg #[.int .i64 (gd s), .int .i64 (gc s)], .int .i64 (ef s.2.2)] := by
  unfold gz gd gc ef
  cases s.2.2 <;> rfl
theorem gmap_no (s : ByteArray) : gmap noG s = none := rfl
theorem c_gauge (R : Nat) (T : Ty) (h : Hd) (w : World) (hl : Lies w A0 R T h) :
    Calls Try.prog 30 #[h.val] w fun e w' => e = .returned (.tuple #[.agg #[.int .i64 (gd (look 9 T)), .int .i64 (gc (look 9 T))], .int .i64 (ef (look 9 T).2.2)]) ∧ Kp w w' := by
  have HL := Lib.hid hl
  clear hl
  generalize hd : gd (look 9 T) = d
  generalize hc : gc (look 9 T) = c
  generalize he : ef (look 9 T).2.2 = q
  have CX : Hid (∀ (W : World), Lies W A0 R T h → Calls Try.prog 31 #[h.val, .map none] W fun e w' => e = .returned (.tuple #[.agg #[.int .i64 d, .int .i64 c], .int .i64 q]) ∧ Kp W w') :=
    Lib.hid (fun W a => (c_gaugeWith R T h W none noG (fun s x h => by cases h) (.inl ⟨rfl, gmap_no⟩) a).mono fun e w' p => ⟨p.1.trans (by rw [gz_eq]; show Ending.returned (.tuple #[.agg #[.int .i64 (gd (look 9 T)), .int .i64 (gc (look 9 T))], .int .i64 (ef (look 9 T).2.2)]) = _; rw [hd, hc, he]), p.2⟩)
  clear hd hc he
  go_enter Try.func30, Try.ntmps30
  go_wp2_with (first | (go_at_call 31; refine (CX.out _ (HL.out.keep (((Kp.refl w).alloc _).alloc _))).mono ?_; rintro e w6 ⟨rfl, hk6⟩; obtain ⟨x0, x1, xf, xs⟩ := box2 hk6; simp only [World.size_alloc] at x0 x1 xf xs; have xl : w.heap.size + 1 < w6.heap.size := xs))
  exact bodyPost_ret (v := .tuple #[.agg #[.int .i64 d, .int .i64 c], .int .i64 q]) (by simp [results, Try.results30, go_sem, x0, x1, xl]) rfl ⟨rfl, (by repeat (first | exact (((Kp.refl w).alloc _).alloc _).trans hk6 | refine Kp.alloc ?_ _ | refine Kp.setCell ?_ (by (first | (simp; done) | (simp; omega))) _))⟩
theorem c_Check (R : Nat) (T : Ty) (h : Hd) (w : World) (hl : Lies w A0 R T h) :
    Calls Try.prog 29 #[h.val] w fun e w' => e = .returned (.int .i64 (ef (look 9 T).2.2)) ∧ Kp w w' := by
  have HL := Lib.hid hl
  clear hl
  go_enter Try.func29, Try.ntmps29
  go_wp2_with (first | (go_at_call 30; refine (c_gauge R T h _ (HL.out.keep ((Kp.refl w).alloc _))).mono ?_; rintro e w6 ⟨rfl, hk6⟩))
  go_ret
  exact ⟨rfl, (((Kp.refl w).alloc _).trans hk6).alloc _⟩
end Go.Proofs.Ytfjflfokmihcpaa
