/- replace of package types, and its function literals: a type made anew, with what stands for its names. Condition: the types lie in memory. -/
import Derived.Test.YtfjflfokmihcpaaRb
import Derived.Test.YtfjflfokmihcpaaFp
namespace Go.Proofs.Ytfjflfokmihcpaa
open Go.RowKit
set_option linter.unusedVariables false
set_option linter.unusedSimpArgs false
theorem row6 {w : World} {g : Nat} {x0 x1 x2 x3 x4 x5 : Value} {t : TypeId} {fr : Nat × Nat} (hg : w.heap[g]? = some (.cells #[x0, x1, x2, x3, x4, x5] t fr)) :
    w.cell? ⟨g, 0, none⟩ = some x0 ∧ w.cell? ⟨g, 1, none⟩ = some x1 ∧ w.cell? ⟨g, 2, none⟩ = some x2 ∧ w.cell? ⟨g, 3, none⟩ = some x3 ∧ w.cell? ⟨g, 4, none⟩ = some x4 ∧ w.cell? ⟨g, 5, none⟩ = some x5 ∧ g < w.heap.size :=
  ⟨row_cell hg 0, row_cell hg 1, row_cell hg 2, row_cell hg 3, row_cell hg 4, row_cell hg 5, (Array.getElem?_eq_some_iff.1 hg).1⟩
/-- A store of all cells of a block. -/
theorem wpList_store_rowK {P : Program} {ops : Array Oper} {rest : List Oper} {o : Oper} {a : Act} {w : World} {Q : Exit → Act → World → Prop} (hgd : o.guard = none) (ty : TypeId) (x y : Operand) (ho : o.op = .store ty x y)
    (g : Nat) (cells : Array Value) (hx : a.eval x = .pointer (some ⟨g, 0, none⟩)) (hy : a.eval y = .agg cells)
    (t : TypeId) (old : Array Value) (hg : w.heap[g]? = some (.cells old t (0, 0))) (hi : (P.info? ty).map (·.size) = some cells.size)
    (hold : old.size = cells.size) (h1 : cells.all (·.oneCell') = true)
    (h : ∀ w', w'.heap[g]? = some (.cells cells t (0, 0)) → Ke g w w' → wpList P ops Q rest (a.put o.dst undef) w') : wpList P ops Q (o :: rest) a w :=
  wpList_store_row hgd ty x y ho g cells hx hy t old hg hi hold h1 (h _ (setRow_heap w g old cells t (0, 0) hg) ⟨rfl, rfl, rfl, by simp, fun k hk hb => setRow_other w g k cells hb⟩)
theorem Lies.setNew {w : World} {B r : Nat} {T : Ty} {h : Hd} (hl : Lies w (From B) r T h) {p : Addr} (hp : p.block < B) (v : Value) : Lies (w.setCell p v) (From B) r T h :=
  hl.turn (N := fun b => b = p.block) (Fr.set w p v) (by simp) (fun b _ (hb : B ≤ b) => by omega)
set_option maxHeartbeats 1600000 in
set_option maxRecDepth 100000 in
theorem renew_hit (bs br bl : Nat) (sm : Option Nat) (fS : ByteArray → Option Value) (σ : ByteArray → Option Ty) (Ra : Nat)
    (cr : ∀ (X : Ty) (hx : Hd) (W : World), Lies W A0 Ra X hx → Calls Try.prog 32 #[hx.val, .map none] W (MadeP Ra X W))
    (A : Ty) (h u : Hd) (w : World) (hE : EnvR w bs br bl sm fS) (hA : Lies w A0 Ra A u) (hn : h.nm.size ≤ 140737488351232) (hu : (fS h.nm).getD hd0.val = u.val) (hok : (fS h.nm).isSome = true) (hk : h.k = 12) :
    Calls Try.prog 47 #[h.val, .pointer (some ⟨bs, 0, none⟩), .pointer (some ⟨br, 0, none⟩), .pointer (some ⟨bl, 0, none⟩)] w (MadeP Ra A w) := by
  have hE1 := hE.es
  have HE := Lib.hid hE
  have HN := Lib.hid hn
  have HA := Lib.hid hA
  have CR := Lib.hid cr
  have HU := Lib.hid hu
  have HOK := Lib.hid hok
  have hb := lt_of_cell hE1
  simp only at hb
  clear hE hA hn cr hu hok
  obtain ⟨k, nm, con, fa, fl, fc, la, ll, lc, ra, rl, rc⟩ := h
  obtain ⟨uk, unm, ucon, ufa, ufl, ufc, ula, ull, ulc, ura, url, urc⟩ := u
  simp only at hk
  subst hk
  go_enter Try.func47, Try.ntmps47
  go_wp2_with (first | ((with_reducible show wpList _ _ _ (⟨some 15, _, _, _, _, _⟩ :: _) _ _); refine wpList_map_opt (d := 15) _ _ 66 9 42 rfl Try.underlying9 Try.underlying66 _ zeroY sm fS (by rfl) (HE.out.em.keep (((Kp.refl w).alloc _).alloc _)) nm (by rfl) (by have := HN.out; unfold maxLen; simp only at this; omega) _ HU.out _ HOK.out ?_) | (go_at_call 32; refine (CR.out A ⟨uk, unm, ucon, ufa, ufl, ufc, ula, ull, ulc, ura, url, urc⟩ _ (HA.out.keep ((((Kp.refl w).alloc _).alloc _).alloc _))).mono ?_; rintro e w6 ⟨⟨k', nm', con', fa', fl', fc', la', ll', lc', ra', rl', rc'⟩, rfl, hli, hk6⟩; have hb6 := (hk6.blk (b := w.heap.size + 1) (by simp)).trans ((((Kp.refl _).alloc _).blk (b := w.heap.size + 1) (by simp)).trans (heap_at (by simp))); have HB6 := Lib.hid hb6; have HLI := Lib.hid hli; have HK6 := Lib.hid hk6; clear hli hk6 hb6) | ((with_reducible show wpList _ _ _ (⟨none, .store _ (.tmp 5) (.tmp 25), _, _, _, _⟩ :: _) _ _); refine wpList_store_rowK (by rfl) 42 _ _ (by rfl) (w.heap.size + 1) #[.int .i64 k', .string nm', .int .i64 con', .slice fa' fl' fc', .slice la' ll' lc', .slice ra' rl' rc'] (by rfl) (by rfl) 42 _ HB6.out (by exact sizeT) (by rfl) (by simp [Value.oneCell']) ?_; intro w7 hb7 hke; obtain ⟨u0, u1, u2, u3, u4, u5, us⟩ := row6 hb7; have HKE := Lib.hid hke; clear hke hb7))
  refine bodyPost_ret (v := .agg #[.int .i64 k', .string nm', .int .i64 con', .slice fa' fl' fc', .slice la' ll' lc', .slice ra' rl' rc']) (by simp [results, Try.results47, go_sem, u0, u1, u2, u3, u4, u5]) rfl ⟨⟨k', nm', con', fa', fl', fc', la', ll', lc', ra', rl', rc'⟩, rfl, ?_, ?_⟩
  · have hs := HKE.out.2.2.2.1
    have hl := HLI.out
    simp only [World.size_alloc] at hl
    exact (hl.turn HKE.out.fr hs (fun b _ (hb : w.heap.size + 1 + 1 + 1 ≤ b) (he : b = w.heap.size + 1) => by omega)).weak (From_le (by omega))
  · exact HKE.out.old (((((Kp.refl w).alloc _).alloc _).alloc _).trans HK6.out) (by omega)
theorem c_renew (bs br bl : Nat) (sm : Option Nat) (fS : ByteArray → Option Value) (σ : ByteArray → Option Ty) (Ra : Nat)
    (cr : (∃ s A, σ s = some A) → ∀ (X : Ty) (hx : Hd) (W : World), Lies W A0 Ra X hx → Calls Try.prog 32 #[hx.val, .map none] W (MadeP Ra X W)) :
    ∀ (r : Nat) (T : Ty) (h : Hd) (w : World), EnvR w bs br bl sm fS → StOK w fS σ Ra → Lies w A0 r T h →
    Calls Try.prog 47 #[h.val, .pointer (some ⟨bs, 0, none⟩), .pointer (some ⟨br, 0, none⟩), .pointer (some ⟨bl, 0, none⟩)] w (MadeP (r + Ra) (fill σ r T) w) := by
  intro r
  induction r with
  | zero => intro T h w _ _ hl; exact hl.elim
  | succ r ih =>
    intro T h w hE hS hl
    obtain ⟨K, t, hh⟩ := hl
    have ek := t.ek
    have en := t.en
    have miss : ∀ (u : Hd) (ok : Bool), (fS h.nm).getD hd0.val = u.val → (fS h.nm).isSome = ok → (ok = false ∨ (ok = true ∧ (h.k == 12) = false)) → (if T.k = 12 then σ T.nm else none) = none →
        Calls Try.prog 47 #[h.val, .pointer (some ⟨bs, 0, none⟩), .pointer (some ⟨br, 0, none⟩), .pointer (some ⟨bl, 0, none⟩)] w (MadeP (r + 1 + Ra) (fill σ (r + 1) T) w) := by
      intro u ok hu hok hno hm
      rw [fill_miss hm, show r + 1 + Ra = r + Ra + 1 by omega]
      exact renew_miss bs br bl sm fS σ Ra r (fun X hx W a b c => ih X hx W a b c) T h K w hE hS t hh u ok hu hok hno
    rcases hS h.nm with ⟨hf, hs⟩ | ⟨A, hd, hf, hs, hA⟩
    · exact miss hd0 false (by rw [hf]; rfl) (by rw [hf]; rfl) (.inl rfl) (by rw [en, hs]; simp)
    · by_cases hk : T.k = 12
      · rw [fill_hit hk (by rw [en]; exact hs)]
        refine (renew_hit bs br bl sm fS σ Ra (cr ⟨_, _, hs⟩) A h hd w hE hA t.rn (by rw [hf]; rfl) (by rw [hf]; rfl) (ek.symm.trans hk)).mono ?_
        rintro e w' ⟨h', e1, e2, e3⟩
        exact ⟨h', e1, e2.mono (by omega), e3⟩
      · exact miss hd true (by rw [hf]; rfl) (by rw [hf]; rfl) (.inr ⟨rfl, by rw [beq_eq_false_iff_ne]; exact fun e => hk (ek.trans e)⟩) (by rw [if_neg hk])
theorem env_atR (w : World) (sm : Option Nat) (fS : ByteArray → Option Value) (hm : MapOpt w Try.prog 9 sm fS) (A C : Obj) (t1 t2 t3 : TypeId) :
    EnvR (((((w.alloc A).alloc (.cells #[.map sm] t1)).alloc C).alloc (.cells #[.func (.func 47) #[] #[.pointer (some ⟨w.heap.size + 1, 0, none⟩), .pointer (some ⟨w.heap.size + 1 + 1 + 1, 0, none⟩), .pointer (some ⟨w.heap.size + 1 + 1 + 1 + 1, 0, none⟩)]] t2)).alloc (.cells #[.func (.func 46) #[] #[.pointer (some ⟨w.heap.size + 1 + 1 + 1, 0, none⟩)]] t3)) (w.heap.size + 1) (w.heap.size + 1 + 1 + 1) (w.heap.size + 1 + 1 + 1 + 1) sm fS := by
  obtain ⟨W2, hW2⟩ : ∃ W2, (w.alloc A).alloc (.cells #[.map sm] t1) = W2 := ⟨_, rfl⟩
  have k2 : Kp w W2 := by rw [← hW2]; exact ((Kp.refl w).alloc _).alloc _
  have z2' : W2.heap.size = w.heap.size + 1 + 1 := by rw [← hW2]; simp
  have c0 : W2.cell? ⟨w.heap.size + 1, 0, none⟩ = some (.map sm) := by
    have e2 : (w.alloc A).heap.size = w.heap.size + 1 := by simp
    rw [← hW2, ← e2, cell_of_row _ _ _ _ t1 (0, 0) (heap_alloc_new _ _)]; rfl
  rw [hW2]
  clear hW2
  obtain ⟨W3, hW3⟩ : ∃ W3, W2.alloc C = W3 := ⟨_, rfl⟩
  have k3 : Kp W2 W3 := by rw [← hW3]; exact (Kp.refl W2).alloc _
  have z3 : W3.heap.size = w.heap.size + 1 + 1 + 1 := by rw [← hW3]; simp [z2']
  rw [hW3]
  clear hW3
  have z4 : ∀ o, (W3.alloc o).heap.size = w.heap.size + 1 + 1 + 1 + 1 := fun o => by simp [z3]
  refine ⟨(k3.trans (((Kp.refl W3).alloc _).alloc _)).cellv c0, ?_, ?_, hm.keep (k2.trans (k3.trans (((Kp.refl W3).alloc _).alloc _)))⟩
  · refine ((Kp.refl _).alloc _).cellv ?_
    have h0 := cell_of_row _ _ 0 _ t2 (0, 0) (heap_alloc_new W3 (.cells #[.func (.func 47) #[] #[.pointer (some ⟨w.heap.size + 1, 0, none⟩), .pointer (some ⟨w.heap.size + 1 + 1 + 1, 0, none⟩), .pointer (some ⟨w.heap.size + 1 + 1 + 1 + 1, 0, none⟩)]] t2 (0, 0)))
    rw [z3] at h0
    exact h0
  · have h0 := cell_of_row _ _ 0 _ t3 (0, 0) (heap_alloc_new (W3.alloc (.cells #[.func (.func 47) #[] #[.pointer (some ⟨w.heap.size + 1, 0, none⟩), .pointer (some ⟨w.heap.size + 1 + 1 + 1, 0, none⟩), .pointer (some ⟨w.heap.size + 1 + 1 + 1 + 1, 0, none⟩)]] t2 (0, 0))) (.cells #[.func (.func 46) #[] #[.pointer (some ⟨w.heap.size + 1 + 1 + 1, 0, none⟩)]] t3 (0, 0)))
    rw [z4] at h0
    exact h0
set_option maxHeartbeats 1600000 in
theorem c_replaceW (sm : Option Nat) (fS : ByteArray → Option Value) (h : Hd) (w : World) (hm : MapOpt w Try.prog 9 sm fS)
    (rr : Nat) (X : Ty) (cr : ∀ (W : World) (bs br bl : Nat), Kp w W → EnvR W bs br bl sm fS → Calls Try.prog 47 #[h.val, .pointer (some ⟨bs, 0, none⟩), .pointer (some ⟨br, 0, none⟩), .pointer (some ⟨bl, 0, none⟩)] W (MadeP rr X W)) :
    Calls Try.prog 32 #[h.val, .map sm] w (MadeP rr X w) := by
  have HM := Lib.hid hm
  have CR := Lib.hid cr
  clear hm cr
  obtain ⟨k, nm, con, fa, fl, fc, la, ll, lc, ra, rl, rc⟩ := h
  go_enter Try.func32, Try.ntmps32
  go_wp2_with (first | (go_at_call 47; refine (CR.out _ _ _ _ (((((Kp.refl w).alloc _).alloc _).alloc _).alloc _ |>.alloc _) (env_atR w sm fS HM.out _ _ _ _ _)).mono ?_; rintro e w6 ⟨⟨k', nm', con', fa', fl', fc', la', ll', lc', ra', rl', rc'⟩, rfl, hli, hk6⟩; have hb6 := (hk6.blk (b := w.heap.size + 1 + 1) (by simp)).trans ((((Kp.refl _).alloc _).alloc _).blk (b := w.heap.size + 1 + 1) (by simp) |>.trans (heap_at (by simp))); have HB6 := Lib.hid hb6; have HLI := Lib.hid hli; have HK6 := Lib.hid hk6; clear hli hk6 hb6) | ((with_reducible show wpList _ _ _ (⟨none, .store _ (.tmp 4) (.tmp 11), _, _, _, _⟩ :: _) _ _); refine wpList_store_rowK (by rfl) 42 _ _ (by rfl) (w.heap.size + 1 + 1) #[.int .i64 k', .string nm', .int .i64 con', .slice fa' fl' fc', .slice la' ll' lc', .slice ra' rl' rc'] (by rfl) (by rfl) 42 _ HB6.out (by exact sizeT) (by rfl) (by simp [Value.oneCell']) ?_; intro w7 hb7 hke; obtain ⟨u0, u1, u2, u3, u4, u5, us⟩ := row6 hb7; have HKE := Lib.hid hke; clear hke hb7))
  refine bodyPost_ret (v := .agg #[.int .i64 k', .string nm', .int .i64 con', .slice fa' fl' fc', .slice la' ll' lc', .slice ra' rl' rc']) (by simp [results, Try.results32, go_sem, u0, u1, u2, u3, u4, u5]) rfl ⟨⟨k', nm', con', fa', fl', fc', la', ll', lc', ra', rl', rc'⟩, rfl, ?_, ?_⟩
  · have hs := HKE.out.2.2.2.1
    have hl := HLI.out
    simp only [World.size_alloc] at hl
    exact (hl.turn HKE.out.fr hs (fun b _ (hb : w.heap.size + 1 + 1 + 1 + 1 + 1 ≤ b) (he : b = w.heap.size + 1 + 1) => by omega)).weak (From_le (by omega))
  · exact HKE.out.old (((((((Kp.refl w).alloc _).alloc _).alloc _).alloc _).alloc _).trans HK6.out) (by omega)
/-- A type is made anew. -/
theorem c_replace0 (r : Nat) (T : Ty) (h : Hd) (w : World) (hl : Lies w A0 r T h) : Calls Try.prog 32 #[h.val, .map none] w (MadeP r T w) := by
  have hm : MapOpt w Try.prog 9 none (fun _ => none) := .inl ⟨rfl, fun _ => rfl⟩
  refine c_replaceW none (fun _ => none) h w hm r T (fun W bs br bl hk hE => ?_)
  have := c_renew bs br bl none (fun _ => none) noσ 0 (fun ⟨s, A, e⟩ => by cases e) r T h W hE (fun s => .inl ⟨rfl, rfl⟩) (hl.keep hk)
  rwa [fill_none] at this
/-- A type is made anew, with what stands for its names. -/
theorem c_replace (sm : Option Nat) (fS : ByteArray → Option Value) (σ : ByteArray → Option Ty) (Ra r : Nat) (T : Ty) (h : Hd) (w : World) (hm : MapOpt w Try.prog 9 sm fS) (hS : StOK w fS σ Ra) (hl : Lies w A0 r T h) :
    Calls Try.prog 32 #[h.val, .map sm] w (MadeP (r + Ra) (fill σ r T) w) :=
  c_replaceW sm fS h w hm (r + Ra) (fill σ r T) (fun W bs br bl hk hE => c_renew bs br bl sm fS σ Ra (fun _ X hx W' hX => c_replace0 Ra X hx W' hX) r T h W hE (hS.keep hk) (hl.keep hk))
end Go.Proofs.Ytfjflfokmihcpaa
