/- replace$1 of package types: a list of types, each made anew. Condition: the types lie in memory; what is made of each is handed in. -/
import Derived.Test.YtfjflfokmihcpaaT9
import Derived.Test.YtfjflfokmihcpaaF2
namespace Go.Proofs.Ytfjflfokmihcpaa
open Go.RowKit
set_option linter.unusedVariables false
set_option linter.unusedSimpArgs false

/-- What replace's function literals share: the map of what stands for names, and themselves. -/
structure EnvR (w : World) (bs br bl : Nat) (sm : Option Nat) (fS : ByteArray → Option Value) : Prop where
  es : w.cell? ⟨bs, 0, none⟩ = some (.map sm)
  er : w.cell? ⟨br, 0, none⟩ = some (.func (.func 47) #[] #[.pointer (some ⟨bs, 0, none⟩), .pointer (some ⟨br, 0, none⟩), .pointer (some ⟨bl, 0, none⟩)])
  el : w.cell? ⟨bl, 0, none⟩ = some (.func (.func 46) #[] #[.pointer (some ⟨br, 0, none⟩)])
  em : MapOpt w Try.prog 9 sm fS
theorem EnvR.keep {w w' : World} {bs br bl : Nat} {sm : Option Nat} {fS : ByteArray → Option Value} (h : EnvR w bs br bl sm fS) (hk : Kp w w') : EnvR w' bs br bl sm fS :=
  ⟨hk.cellv h.es, hk.cellv h.er, hk.cellv h.el, h.em.keep hk⟩
/-- Each name that stands for something stands for a type that lies in memory. -/
def StOK (w : World) (fS : ByteArray → Option Value) (σ : ByteArray → Option Ty) (Ra : Nat) : Prop := ∀ s, (fS s = none ∧ σ s = none) ∨ ∃ A hd, fS s = some (Hd.val hd) ∧ σ s = some A ∧ Lies w A0 Ra A hd
theorem StOK.keep {w w' : World} {fS : ByteArray → Option Value} {σ : ByteArray → Option Ty} {Ra : Nat} (h : StOK w fS σ Ra) (hk : Kp w w') : StOK w' fS σ Ra := fun s => by
  rcases h s with h | ⟨A, hd, h1, h2, h3⟩
  · exact .inl h
  · exact .inr ⟨A, hd, h1, h2, h3.keep hk⟩
/-- A type X in new memory. -/
def MadeP (r : Nat) (X : Ty) (w : World) (e : Ending) (w' : World) : Prop := ∃ h' : Hd, e = .returned h'.val ∧ Lies w' (From w.heap.size) r X h' ∧ Kp w w'
set_option maxHeartbeats 1600000 in
set_option maxRecDepth 100000 in
theorem c_list (bs br bl : Nat) (sm : Option Nat) (fS : ByteArray → Option Value) (σ : ByteArray → Option Ty) (Ra r rr : Nat) (φ : Ty → Ty)
    (cf : ∀ (X : Ty) (hx : Hd) (W : World), EnvR W bs br bl sm fS → StOK W fS σ Ra → Lies W A0 r X hx → Calls Try.prog 47 #[hx.val, .pointer (some ⟨bs, 0, none⟩), .pointer (some ⟨br, 0, none⟩), .pointer (some ⟨bl, 0, none⟩)] W (MadeP rr (φ X) W))
    (l : List Ty) (N : Nat) (hN : l.length = N) (ad : Option Addr) (c : Nat) (K : Nat → Hd) (w : World) (hE : EnvR w bs br bl sm fS) (hS : StOK w fS σ Ra) (hl : LiesAll w A0 r l ad c K) (hb : N * 104 ≤ 140737488351232) :
    Calls Try.prog 46 #[.slice ad N c, .pointer (some ⟨br, 0, none⟩)] w fun e w' => ∃ ad c K', e = .returned (.slice ad N c) ∧ LiesAll w' (From w.heap.size) rr (l.map φ) ad c K' ∧ Kp w w' := by
  obtain ⟨i0, hi, hz0, hz1, hz2⟩ := info_parts infoT
  have HL := Lib.hid hl
  have CF := Lib.hid cf
  have HE := Lib.hid hE
  have HS := Lib.hid hS
  have HN := Lib.hid hN
  clear hl cf hE hS hN
  go_enter Try.func46, Try.ntmps46
  go_wp2_with fail
  go_loopw [4, 9] (fun v i wr => ∃ n K', n ≤ N ∧ i = .int .i64 (n : Nat) ∧ KidsIn wr w.heap.size 42 6 rr (l.map φ) n v (fun _ => []) K' ∧ Kp w wr) (fun _ i _ => N - (intOf i).toNat)
  case atStart => exact ⟨0, K, by omega, rfl, kidsIn_nil _ _ _ _ _ _ _ _, Kp.refl _⟩
  case round =>
    obtain ⟨n, K', hn, rfl, hI, hkr⟩ := hrel
    have HI := Lib.hid hI
    have HK := Lib.hid hkr
    clear hI hkr
    by_cases hlt : n < N
    · obtain ⟨b, o, ha, hr⟩ := HL.out.1.at (by have := HN.out; omega)
      have HA := Lib.hid ha
      have HR := Lib.hid (hr n (by have := HN.out; omega))
      clear ha hr
      obtain ⟨X, hX⟩ : ∃ X, l[n]? = some X := ⟨_, List.getElem?_eq_getElem (by have := HN.out; omega)⟩
      have HX := Lib.hid hX
      have HX' := Lib.hid (show (l.map φ)[n]? = some (φ X) by rw [List.getElem?_map, hX]; rfl)
      clear hX
      have hsz := HK.out.sz
      have ce := (HE.out.keep HK.out).er
      have cl : br < wr.heap.size := lt_of_cell ce
      go_wp2_with (first | ((with_reducible show wpList _ _ _ (⟨some 11, _, _, _, _, _⟩ :: _) _ _); refine wpList_index_tab (d := 11) _ _ _ rfl 42 Try.underlying23 6 rfl _ _ _ _ o (by rfl) HA.out n (by rfl) hlt ?_) | ((with_reducible show wpList _ _ _ (⟨some 12, _, _, _, _, _⟩ :: _) _ _); refine wpList_load_ty (d := 12) _ _ rfl _ Try.underlying42 w _ _ b (o + n * 6) (by rfl) rfl (by first | rfl | omega) (K n) HR.out HK.out rfl ?_) | (go_at_call 47; refine (CF.out X (K n) _ (HE.out.keep (HK.out.alloc _)) (HS.out.keep (HK.out.alloc _)) ((HL.out.2 n X HX.out).keep (HK.out.alloc _))).mono ?_; rintro e w1 ⟨h', rfl, hli, hk1⟩) | ((with_reducible show wpList _ _ _ (⟨some 18, _, _, _, _, _⟩ :: _) _ _); refine wpList_append_one_at (d := 18) _ _ 23 rfl w.heap.size 42 i0 _ 6 104 Try.underlying23 hi hz0 hz1 hz2 rfl (by decide) _ n _ (by rfl) _ ((HI.out.keep (((Kp.refl _).alloc _).trans hk1)).1) h'.cells _ _ _ (by rfl) (by first | rfl | simp) (by rfl) (by rfl) (Hd.one _) (by unfold maxLen; omega) (by omega) (by have := hk1.sz; simp at this; omega) ?_; intro v1 w3 ho1 hg1 hat))
      go_roundw
      case rel => exact ⟨n + 1, put K' n h', by omega, by go_num, KidsIn.next hsz HI.out HX'.out (((Kp.refl _).alloc _).trans hk1) (hli.weak (From_le (by simp))) ((Kp.refl _).alloc _) ho1 hg1 hat, (HK.out.trans ((((Kp.refl _).alloc _).trans hk1).alloc _)).grown hg1 (fun k hk => (HI.out.1.lt k hk).1)⟩
      case measure => simp [intOf]; omega
    · obtain rfl : N = n := by omega
      go_wp2_with fail
      go_ret
      have hI := HI.out
      rw [← HN.out, ← List.length_map (f := φ)] at hI
      obtain ⟨ad', c', rfl, _, hall⟩ := hI.all
      have hlen : (l.map φ).length = N := by rw [List.length_map, HN.out]
      exact ⟨ad', c', K', by rw [hlen]; rfl, hall, HK.out⟩
end Go.Proofs.Ytfjflfokmihcpaa
