/- The walk of ScanNumbers: whatever the number. Condition: the library's variables hold what they must. -/
import Derived.Test.YtjpmgloofcgfnaaDoorE2
import Derived.Test.YtjpmgloofcgfnaaDoorD7
namespace Go.Proofs.YtjpmgloofcgfnaaDoor
open Go.RowKit
set_option linter.unusedVariables false
set_option linter.unusedSimpArgs false

def hexT (v : Nat) : ByteArray := ⟨(hxV 15 v).toArray⟩
theorem hexT_size (v : Nat) : (hexT v).size ≤ 16 := by
  have := (hx_len 15 v).2
  simpa [hexT, ByteArray.size] using this
theorem c_tens (v : Nat) (w : World) (h : v < 18446744073709551616) : Calls Tryd.prog 21 #[.agg #[.bool false, .int .u64 v]] w fun e w' => e = .returned (.string (decT v)) ∧ Kp w w' := c_Digits v false w h
theorem c_num (s : ByteArray) (x e0 : Int) (h : numV s.data.toList = (x, e0)) (w : World) (he : ErrAt w) (hs : s.size ≤ 140737488351232) : Calls Tryd.prog 14 #[.string s] w fun e w' => e = .returned (.tuple #[.int .u64 x, .int .i64 e0]) ∧ Kp w w' :=
  (c_Number s w he hs).mono fun e w' ⟨h1, h2⟩ => ⟨by rw [h1, h]; rfl, h2⟩
abbrev hexL16 : ByteArray := ⟨#[48, 49, 50, 51, 52, 53, 54, 55, 56, 57, 97, 98, 99, 100, 101, 102]⟩
theorem hex_cut (c : Nat) (h : c < 16) : hexL16.extract c (c + 1) = ⟨#[hxd c]⟩ := by
  have : ∀ i : Fin 16, hexL16.extract i.val (i.val + 1) = ⟨#[hxd i.val]⟩ := by decide +kernel
  exact this ⟨c, h⟩
def emptyOf (x : Value) : Nat := match x with | .string b => if b.size = 0 then 1 else 0 | _ => 0
theorem empty_one (x : UInt8) (H : ByteArray) : emptyOf (.string (⟨#[x]⟩ ++ H)) = 0 := by
  have h : (⟨#[x]⟩ ++ H : ByteArray).size = 1 + H.size := ByteArray.size_append
  unfold emptyOf
  simp only [h]
  rw [if_neg (by omega)]
/-- What is left of the number, and the digits so far. -/
def HexSt (v u : Nat) (H : ByteArray) : Prop := ∃ acc : List UInt8, H = ⟨acc.toArray⟩ ∧ ((∃ b, (acc = [] → u = v ∧ b = 15) ∧ (acc ≠ [] → 0 < u) ∧ u < 16 ^ (b + 1) ∧ hxV b u ++ acc = hxV 15 v) ∨ (u = 0 ∧ acc ≠ [] ∧ acc = hxV 15 v))
theorem hex_start (v : Nat) (h : v < 18446744073709551616) : HexSt v v ⟨#[]⟩ := ⟨[], rfl, .inl ⟨15, fun _ => ⟨rfl, rfl⟩, fun h => absurd rfl h, h, by simp⟩⟩
theorem hex_next {v u : Nat} {H : ByteArray} (h : HexSt v u H) (hc : 0 < u ∨ H = ⟨#[]⟩) : HexSt v (u / 16) (⟨#[hxd (u % 16)]⟩ ++ H) := by
  obtain ⟨acc, rfl, h⟩ := h
  refine ⟨hxd (u % 16) :: acc, app1 _ _, ?_⟩
  have he : (⟨acc.toArray⟩ : ByteArray) = ⟨#[]⟩ → acc = [] := fun e => by
    have := congrArg (fun b => b.data.toList) e
    simpa using this
  rcases h with ⟨b, h1, h2, h3, h4⟩ | ⟨h1, h2, _⟩
  · cases b with
    | zero =>
      refine .inr ⟨by simp at h3; omega, by simp, ?_⟩
      rw [hxV] at h4
      rw [← h4, show u % 16 = u by simp at h3; omega]
      rfl
    | succ b =>
      rw [hxV] at h4
      by_cases h16 : u < 16
      · rw [if_pos h16] at h4
        refine .inr ⟨by omega, by simp, ?_⟩
        rw [← h4, show u % 16 = u by omega]
        rfl
      · rw [if_neg h16] at h4
        refine .inl ⟨b, fun h => by simp at h, fun _ => by omega, by rw [Nat.pow_succ] at h3; omega, ?_⟩
        rw [← h4]
        simp
  · rcases hc with hc | hc
    · omega
    · exact absurd (he hc) h2
theorem hex_end {v u : Nat} {H : ByteArray} (h : HexSt v u H) (h0 : u = 0) (hH : H ≠ ⟨#[]⟩) : H = hexT v := by
  obtain ⟨acc, rfl, h⟩ := h
  rcases h with ⟨b, h1, h2, h3, h4⟩ | ⟨_, _, h3⟩
  · have ha : acc ≠ [] := fun e => hH (by rw [e])
    have := h2 ha
    omega
  · rw [h3]; rfl
theorem hex_size {v u : Nat} {H : ByteArray} (h : HexSt v u H) : H.size ≤ 16 := by
  obtain ⟨acc, rfl, h⟩ := h
  have h2 := (hx_len 15 v).2
  have h3 : (⟨acc.toArray⟩ : ByteArray).size = acc.length := by simp [ByteArray.size]
  rw [h3]
  rcases h with ⟨b, _, _, _, h4⟩ | ⟨_, _, h4⟩
  · rw [← h4, List.length_append] at h2; omega
  · rw [h4]; exact h2
set_option maxHeartbeats 1600000 in
set_option maxRecDepth 1000000 in
theorem law_ScanNumbers (n : Int) (w : World) (hn : 0 ≤ n ∧ n ≤ 18446744073709551615) (he : ErrAt w) (hg : SignsAt w) (hm : MaxAt w) : Calls Tryd.prog 7 #[.int .u64 n] w fun e w' => e = .returned (.bool true) ∧ Kp w w' := by
  obtain ⟨v, rfl⟩ : ∃ v : Nat, n = v := ⟨n.toNat, by omega⟩
  have hv : v < 18446744073709551616 := by omega
  have hd20 : (decT v).size ≤ 20 := by rw [decT_size, Lib.decDigits_length]; exact nd20 hv
  have hh16 := hexT_size v
  have HE := Lib.hid he
  have HG := Lib.hid hg
  have HM := Lib.hid hm
  have C1 := Lib.hid (fun W (e1 : ErrAt W) => c_num (decT v) v 0 (num_dec hv) W e1 (by omega))
  have C2 := Lib.hid (fun W (e1 : ErrAt W) => c_num (⟨#[48, 120]⟩ ++ hexT v) v 0 (by rw [ByteArray.data_append, Array.toList_append]; exact num_hex hv) W e1 (by rw [ByteArray.size_append]; show 2 + (hexT v).size ≤ _; omega))
  have C3 := Lib.hid (fun W (e1 : ErrAt W) => c_num (⟨#[48]⟩ ++ decT v) 0 4 (by rw [ByteArray.data_append, Array.toList_append]; exact num_zero (v := v)) W e1 (by rw [ByteArray.size_append]; show 1 + (decT v).size ≤ _; omega))
  have C4 := Lib.hid (fun W (e1 : ErrAt W) => c_num (decT v ++ ⟨#[122]⟩) 0 4 (by rw [ByteArray.data_append, Array.toList_append]; exact num_let (v := v)) W e1 (by rw [ByteArray.size_append]; show (decT v).size + 1 ≤ _; omega))
  have C5 := Lib.hid (fun W (e1 : ErrAt W) e2 e3 => c_tokC (decT v) _ 2 rfl W (toks_dec hv) e1 e2 e3)
  have z1 : ¬ (9223372036854775807 < 2 + (hexT v).size) := by omega
  have z2 : ¬ (9223372036854775807 < 1 + (decT v).size) := by omega
  have z3 : ¬ (9223372036854775807 < (decT v).size + 1) := by omega
  clear he hg hm
  go_enter Tryd.func7, Tryd.ntmps7
  go_wp2_with (first | (go_at_call 21; (with_reducible refine (c_tens v _ hv).mono ?_); rintro e w2 ⟨rfl, hk2⟩; have K2 := Lib.hid hk2; clear hk2))
  go_loopw [4, 5] (fun s i wq => ∃ (u : Nat) (H : ByteArray), i = .int .u64 u ∧ s = .string H ∧ u ≤ v ∧ Hid (HexSt v u H) ∧ w2 = wq) (fun s i _ => 2 * (intOf i).toNat + emptyOf s)
  case atStart => exact ⟨v, ⟨#[]⟩, rfl, rfl, Nat.le_refl _, Lib.hid (hex_start v hv), rfl⟩
  case round =>
    obtain ⟨u, H, rfl, rfl, hu, HS, rfl⟩ := hrel
    have hsz := hex_size HS.out
    have z4 : ¬ (9223372036854775807 < 1 + H.size) := by omega
    by_cases h0 : 0 < u
    · obtain ⟨c, hc, hc16⟩ : ∃ c : Nat, (u : Int) % 16 = c ∧ c < 16 := ⟨u % 16, by omega, by omega⟩
      have hcu : u % 16 = c := by omega
      have HX := hex_cut c hc16
      have i9 : ((c : Int) + 1).toNat = c + 1 := by omega
      have j1 : (0 : Int) ≤ (c : Int) := by omega
      have j2 : (c : Int) ≤ (c : Int) + 1 := by omega
      have j3 : (c : Int) + 1 ≤ 16 := by omega
      have k0 : (0 : Int) < (u : Int) := by omega
      go_wp2_with fail
      go_roundw
      case rel => exact ⟨u / 16, ⟨#[hxd c]⟩ ++ H, by go_num, rfl, by omega, Lib.hid (by have := hex_next HS.out (.inl h0); rwa [hcu] at this), trivial⟩
      case measure => rw [empty_one]; simp [intOf]; omega
    · obtain rfl : u = 0 := by omega
      by_cases hH : H = ⟨#[]⟩
      · subst hH
        have x1 : ((⟨#[]⟩ : ByteArray).toList == []) = true := by rw [show (⟨#[]⟩ : ByteArray) = ⟨([] : List UInt8).toArray⟩ from rfl, toL]; rfl
        have HX := hex_cut 0 (by omega)
        go_wp2_with fail
        go_roundw
        case rel => exact ⟨0, ⟨#[hxd 0]⟩ ++ ⟨#[]⟩, by go_num, rfl, by omega, Lib.hid (by have := hex_next HS.out (.inr rfl); exact this), trivial⟩
        case measure => rw [empty_one, show emptyOf (.string ⟨#[]⟩) = 1 from rfl]; simp [intOf]
      · have x1 : (H.toList == []) = false := ne_list hH
        have hHv := hex_end HS.out rfl hH
        subst hHv
        go_wp2_with (first | (go_at_call 14; (with_reducible refine (C1.out _ (HE.out.keep K2.out)).mono ?_); rintro e w3 ⟨rfl, hk3⟩; have K3 := Lib.hid (K2.out.trans hk3); clear hk3) | (go_at_call 14; (with_reducible refine (C2.out _ (HE.out.keep K3.out)).mono ?_); rintro e w4 ⟨rfl, hk4⟩; have K4 := Lib.hid (K3.out.trans hk4); clear hk4) | (go_at_call 14; (with_reducible refine (C3.out _ (HE.out.keep K4.out)).mono ?_); rintro e w5 ⟨rfl, hk5⟩; have K5 := Lib.hid (K4.out.trans hk5); clear hk5) | (go_at_call 14; (with_reducible refine (C4.out _ (HE.out.keep K5.out)).mono ?_); rintro e w6 ⟨rfl, hk6⟩; have K6 := Lib.hid (K5.out.trans hk6); clear hk6) | (go_at_call 10; (with_reducible refine (C5.out _ (HE.out.keep K6.out) (HG.out.keep K6.out) (HM.out.keep K6.out)).mono ?_); rintro e w7 ⟨ad, c7, rfl, _, _, hk7, HO⟩; obtain ⟨g, rfl, a0⟩ := HO.out 0 _ rfl; have a1 := cell_at HO.out (j := 1) rfl; have a2 := cell_at HO.out (j := 2) rfl; have a3 := cell_at HO.out (j := 3) rfl; have K7 := Lib.hid (K6.out.trans hk7); clear hk7) | (go_at_call 12; (with_reducible refine (c_answers _ (HE.out.keep K7.out) (HG.out.keep K7.out) (HM.out.keep K7.out)).mono ?_); rintro e w8 ⟨rfl, hk8⟩; have a0 := hk8.cellv a0; have a1 := hk8.cellv a1; have a2 := hk8.cellv a2; have a3 := hk8.cellv a3; have K8 := Lib.hid (K7.out.trans hk8); clear hk8))
        go_ret
        exact ⟨rfl, K8.out⟩
end Go.Proofs.YtjpmgloofcgfnaaDoor
