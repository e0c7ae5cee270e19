/- What a node must have by its Kind: the rest, and any Kind but a function's. Condition: the node lies in memory. -/
import Derived.Test.YtgamenimbkafjaaF11
import Derived.Deep.RegionHeld3
namespace Go.Proofs.Ytgamenimbkafjaa
open Go.RowKit
set_option linter.unusedVariables false
set_option linter.unusedSimpArgs false
set_option maxHeartbeats 3200000 in
set_option maxRecDepth 100000 in
theorem iF_27 (ks : List Int) (tx : ByteArray) (n at_ : Int) (la : Option Addr) (ll lc : Nat) (K : Nat → Hn) (w : World) (hL : ListAt w ks la ll lc K) (hcap : ll ≤ lc) (hs : tx.size ≤ 140737488351232) (hn : 0 ≤ n ∧ n ≤ 18446744073709551615) :
    Calls Try.prog 40 #[.agg #[.int .i64 27, .string tx, .int .u64 n, .int .i64 at_, .slice la ll lc]] w fun e w' => e = .returned (.bool (formB 27 tx n ks)) ∧ Kp w w' := by
  have hlen := hL.len
  rw [show formB 27 tx n ks = (eitherB tx n && areB ks []) from by rfl]
  have HL := Lib.hid hL
  clear hL hlen
  go_enter Try.func40, Try.ntmps40
  go_wp2_with (first | (go_at_call 34; (with_reducible refine (c_isType ⟨27, tx, n, at_, la, ll, lc⟩ _).mono ?_); rintro e w' ⟨rfl, hk1⟩; rw [show tyK (27 : Int) = false from rfl]; have b := boxed (w := w) (h := ⟨27, tx, n, at_, la, ll, lc⟩) (show Kp _ w' by (repeat (first | with_reducible exact Kp.refl _ | with_reducible refine Kp.alloc ?_ _ | with_reducible refine Kp.drew ?_ | with_reducible refine Kp.back hk4 ?_ | with_reducible refine Kp.back hk3 ?_ | with_reducible refine Kp.back hk2 ?_ | with_reducible refine Kp.back hk1 ?_))); simp only at b; obtain ⟨b0, b1, b2, b3, b4, bs⟩ := b) | (go_at_call 32; (with_reducible refine (c_isStatement ⟨27, tx, n, at_, la, ll, lc⟩ _).mono ?_); rintro e w' ⟨rfl, hk2⟩; rw [show stK (27 : Int) = true from rfl]; have b := boxed (w := w) (h := ⟨27, tx, n, at_, la, ll, lc⟩) (show Kp _ w' by (repeat (first | with_reducible exact Kp.refl _ | with_reducible refine Kp.alloc ?_ _ | with_reducible refine Kp.drew ?_ | with_reducible refine Kp.back hk4 ?_ | with_reducible refine Kp.back hk3 ?_ | with_reducible refine Kp.back hk2 ?_ | with_reducible refine Kp.back hk1 ?_))); simp only at b; obtain ⟨b0, b1, b2, b3, b4, bs⟩ := b) | (go_at_call 51; (with_reducible refine (form_27 ks tx n at_ la ll lc K _ (HL.out.keep (by (repeat (first | with_reducible exact Kp.refl _ | with_reducible refine Kp.alloc ?_ _ | with_reducible refine Kp.drew ?_ | with_reducible refine Kp.back hk4 ?_ | with_reducible refine Kp.back hk3 ?_ | with_reducible refine Kp.back hk2 ?_ | with_reducible refine Kp.back hk1 ?_)))) hcap hs).mono ?_); rintro e w' ⟨rfl, hk4⟩))
  go_ret
  refine ⟨rfl, ?_⟩
  (repeat (first | with_reducible exact Kp.refl _ | with_reducible refine Kp.alloc ?_ _ | with_reducible refine Kp.drew ?_ | with_reducible refine Kp.back hk4 ?_ | with_reducible refine Kp.back hk3 ?_ | with_reducible refine Kp.back hk2 ?_ | with_reducible refine Kp.back hk1 ?_))
set_option maxHeartbeats 3200000 in
set_option maxRecDepth 100000 in
theorem iF_28 (ks : List Int) (tx : ByteArray) (n at_ : Int) (la : Option Addr) (ll lc : Nat) (K : Nat → Hn) (w : World) (hL : ListAt w ks la ll lc K) (hcap : ll ≤ lc) (hs : tx.size ≤ 140737488351232) (hn : 0 ≤ n ∧ n ≤ 18446744073709551615) :
    Calls Try.prog 40 #[.agg #[.int .i64 28, .string tx, .int .u64 n, .int .i64 at_, .slice la ll lc]] w fun e w' => e = .returned (.bool (formB 28 tx n ks)) ∧ Kp w w' := by
  have hlen := hL.len
  rw [show formB 28 tx n ks = (bareB tx n && (areB ks [] || areB ks [exK])) from by rfl]
  have HL := Lib.hid hL
  clear hL hlen
  go_enter Try.func40, Try.ntmps40
  go_wp2_with (first | (go_at_call 34; (with_reducible refine (c_isType ⟨28, tx, n, at_, la, ll, lc⟩ _).mono ?_); rintro e w' ⟨rfl, hk1⟩; rw [show tyK (28 : Int) = false from rfl]; have b := boxed (w := w) (h := ⟨28, tx, n, at_, la, ll, lc⟩) (show Kp _ w' by (repeat (first | with_reducible exact Kp.refl _ | with_reducible refine Kp.alloc ?_ _ | with_reducible refine Kp.drew ?_ | with_reducible refine Kp.back hk4 ?_ | with_reducible refine Kp.back hk3 ?_ | with_reducible refine Kp.back hk2 ?_ | with_reducible refine Kp.back hk1 ?_))); simp only at b; obtain ⟨b0, b1, b2, b3, b4, bs⟩ := b) | (go_at_call 32; (with_reducible refine (c_isStatement ⟨28, tx, n, at_, la, ll, lc⟩ _).mono ?_); rintro e w' ⟨rfl, hk2⟩; rw [show stK (28 : Int) = true from rfl]; have b := boxed (w := w) (h := ⟨28, tx, n, at_, la, ll, lc⟩) (show Kp _ w' by (repeat (first | with_reducible exact Kp.refl _ | with_reducible refine Kp.alloc ?_ _ | with_reducible refine Kp.drew ?_ | with_reducible refine Kp.back hk4 ?_ | with_reducible refine Kp.back hk3 ?_ | with_reducible refine Kp.back hk2 ?_ | with_reducible refine Kp.back hk1 ?_))); simp only at b; obtain ⟨b0, b1, b2, b3, b4, bs⟩ := b) | (go_at_call 51; (with_reducible refine (form_28 ks tx n at_ la ll lc K _ (HL.out.keep (by (repeat (first | with_reducible exact Kp.refl _ | with_reducible refine Kp.alloc ?_ _ | with_reducible refine Kp.drew ?_ | with_reducible refine Kp.back hk4 ?_ | with_reducible refine Kp.back hk3 ?_ | with_reducible refine Kp.back hk2 ?_ | with_reducible refine Kp.back hk1 ?_)))) hcap hs).mono ?_); rintro e w' ⟨rfl, hk4⟩))
  go_ret
  refine ⟨rfl, ?_⟩
  (repeat (first | with_reducible exact Kp.refl _ | with_reducible refine Kp.alloc ?_ _ | with_reducible refine Kp.drew ?_ | with_reducible refine Kp.back hk4 ?_ | with_reducible refine Kp.back hk3 ?_ | with_reducible refine Kp.back hk2 ?_ | with_reducible refine Kp.back hk1 ?_))
set_option maxHeartbeats 3200000 in
set_option maxRecDepth 100000 in
theorem iF_29 (ks : List Int) (tx : ByteArray) (n at_ : Int) (la : Option Addr) (ll lc : Nat) (K : Nat → Hn) (w : World) (hL : ListAt w ks la ll lc K) (hcap : ll ≤ lc) (hs : tx.size ≤ 140737488351232) (hn : 0 ≤ n ∧ n ≤ 18446744073709551615) :
    Calls Try.prog 40 #[.agg #[.int .i64 29, .string tx, .int .u64 n, .int .i64 at_, .slice la ll lc]] w fun e w' => e = .returned (.bool (formB 29 tx n ks)) ∧ Kp w w' := by
  have hlen := hL.len
  rw [show formB 29 tx n ks = (eitherB tx n && areB ks [(inK [34])]) from by rfl]
  have HL := Lib.hid hL
  clear hL hlen
  go_enter Try.func40, Try.ntmps40
  go_wp2_with (first | (go_at_call 34; (with_reducible refine (c_isType ⟨29, tx, n, at_, la, ll, lc⟩ _).mono ?_); rintro e w' ⟨rfl, hk1⟩; rw [show tyK (29 : Int) = false from rfl]; have b := boxed (w := w) (h := ⟨29, tx, n, at_, la, ll, lc⟩) (show Kp _ w' by (repeat (first | with_reducible exact Kp.refl _ | with_reducible refine Kp.alloc ?_ _ | with_reducible refine Kp.drew ?_ | with_reducible refine Kp.back hk4 ?_ | with_reducible refine Kp.back hk3 ?_ | with_reducible refine Kp.back hk2 ?_ | with_reducible refine Kp.back hk1 ?_))); simp only at b; obtain ⟨b0, b1, b2, b3, b4, bs⟩ := b) | (go_at_call 32; (with_reducible refine (c_isStatement ⟨29, tx, n, at_, la, ll, lc⟩ _).mono ?_); rintro e w' ⟨rfl, hk2⟩; rw [show stK (29 : Int) = true from rfl]; have b := boxed (w := w) (h := ⟨29, tx, n, at_, la, ll, lc⟩) (show Kp _ w' by (repeat (first | with_reducible exact Kp.refl _ | with_reducible refine Kp.alloc ?_ _ | with_reducible refine Kp.drew ?_ | with_reducible refine Kp.back hk4 ?_ | with_reducible refine Kp.back hk3 ?_ | with_reducible refine Kp.back hk2 ?_ | with_reducible refine Kp.back hk1 ?_))); simp only at b; obtain ⟨b0, b1, b2, b3, b4, bs⟩ := b) | (go_at_call 51; (with_reducible refine (form_29 ks tx n at_ la ll lc K _ (HL.out.keep (by (repeat (first | with_reducible exact Kp.refl _ | with_reducible refine Kp.alloc ?_ _ | with_reducible refine Kp.drew ?_ | with_reducible refine Kp.back hk4 ?_ | with_reducible refine Kp.back hk3 ?_ | with_reducible refine Kp.back hk2 ?_ | with_reducible refine Kp.back hk1 ?_)))) hcap hs).mono ?_); rintro e w' ⟨rfl, hk4⟩))
  go_ret
  refine ⟨rfl, ?_⟩
  (repeat (first | with_reducible exact Kp.refl _ | with_reducible refine Kp.alloc ?_ _ | with_reducible refine Kp.drew ?_ | with_reducible refine Kp.back hk4 ?_ | with_reducible refine Kp.back hk3 ?_ | with_reducible refine Kp.back hk2 ?_ | with_reducible refine Kp.back hk1 ?_))
set_option maxHeartbeats 3200000 in
set_option maxRecDepth 100000 in
theorem iF_30 (ks : List Int) (tx : ByteArray) (n at_ : Int) (la : Option Addr) (ll lc : Nat) (K : Nat → Hn) (w : World) (hL : ListAt w ks la ll lc K) (hcap : ll ≤ lc) (hs : tx.size ≤ 140737488351232) (hn : 0 ≤ n ∧ n ≤ 18446744073709551615) :
    Calls Try.prog 40 #[.agg #[.int .i64 30, .string tx, .int .u64 n, .int .i64 at_, .slice la ll lc]] w fun e w' => e = .returned (.bool (formB 30 tx n ks)) ∧ Kp w w' := by
  have hlen := hL.len
  rw [show formB 30 tx n ks = (namedB tx n && areB ks []) from by rfl]
  have HL := Lib.hid hL
  clear hL hlen
  go_enter Try.func40, Try.ntmps40
  go_wp2_with (first | (go_at_call 34; (with_reducible refine (c_isType ⟨30, tx, n, at_, la, ll, lc⟩ _).mono ?_); rintro e w' ⟨rfl, hk1⟩; rw [show tyK (30 : Int) = false from rfl]; have b := boxed (w := w) (h := ⟨30, tx, n, at_, la, ll, lc⟩) (show Kp _ w' by (repeat (first | with_reducible exact Kp.refl _ | with_reducible refine Kp.alloc ?_ _ | with_reducible refine Kp.drew ?_ | with_reducible refine Kp.back hk4 ?_ | with_reducible refine Kp.back hk3 ?_ | with_reducible refine Kp.back hk2 ?_ | with_reducible refine Kp.back hk1 ?_))); simp only at b; obtain ⟨b0, b1, b2, b3, b4, bs⟩ := b) | (go_at_call 32; (with_reducible refine (c_isStatement ⟨30, tx, n, at_, la, ll, lc⟩ _).mono ?_); rintro e w' ⟨rfl, hk2⟩; rw [show stK (30 : Int) = false from rfl]; have b := boxed (w := w) (h := ⟨30, tx, n, at_, la, ll, lc⟩) (show Kp _ w' by (repeat (first | with_reducible exact Kp.refl _ | with_reducible refine Kp.alloc ?_ _ | with_reducible refine Kp.drew ?_ | with_reducible refine Kp.back hk4 ?_ | with_reducible refine Kp.back hk3 ?_ | with_reducible refine Kp.back hk2 ?_ | with_reducible refine Kp.back hk1 ?_))); simp only at b; obtain ⟨b0, b1, b2, b3, b4, bs⟩ := b) | (go_at_call 33; (with_reducible refine (c_isExpression ⟨30, tx, n, at_, la, ll, lc⟩ _).mono ?_); rintro e w' ⟨rfl, hk3⟩; rw [show exK (30 : Int) = true from rfl]; have b := boxed (w := w) (h := ⟨30, tx, n, at_, la, ll, lc⟩) (show Kp _ w' by (repeat (first | with_reducible exact Kp.refl _ | with_reducible refine Kp.alloc ?_ _ | with_reducible refine Kp.drew ?_ | with_reducible refine Kp.back hk4 ?_ | with_reducible refine Kp.back hk3 ?_ | with_reducible refine Kp.back hk2 ?_ | with_reducible refine Kp.back hk1 ?_))); simp only at b; obtain ⟨b0, b1, b2, b3, b4, bs⟩ := b) | (go_at_call 52; (with_reducible refine (form_30 ks tx n at_ la ll lc K _ (HL.out.keep (by (repeat (first | with_reducible exact Kp.refl _ | with_reducible refine Kp.alloc ?_ _ | with_reducible refine Kp.drew ?_ | with_reducible refine Kp.back hk4 ?_ | with_reducible refine Kp.back hk3 ?_ | with_reducible refine Kp.back hk2 ?_ | with_reducible refine Kp.back hk1 ?_)))) hcap hs).mono ?_); rintro e w' ⟨rfl, hk4⟩))
  go_ret
  refine ⟨rfl, ?_⟩
  (repeat (first | with_reducible exact Kp.refl _ | with_reducible refine Kp.alloc ?_ _ | with_reducible refine Kp.drew ?_ | with_reducible refine Kp.back hk4 ?_ | with_reducible refine Kp.back hk3 ?_ | with_reducible refine Kp.back hk2 ?_ | with_reducible refine Kp.back hk1 ?_))
set_option maxHeartbeats 3200000 in
set_option maxRecDepth 100000 in
theorem iF_31 (ks : List Int) (tx : ByteArray) (n at_ : Int) (la : Option Addr) (ll lc : Nat) (K : Nat → Hn) (w : World) (hL : ListAt w ks la ll lc K) (hcap : ll ≤ lc) (hs : tx.size ≤ 140737488351232) (hn : 0 ≤ n ∧ n ≤ 18446744073709551615) :
    Calls Try.prog 40 #[.agg #[.int .i64 31, .string tx, .int .u64 n, .int .i64 at_, .slice la ll lc]] w fun e w' => e = .returned (.bool (formB 31 tx n ks)) ∧ Kp w w' := by
  have hlen := hL.len
  rw [show formB 31 tx n ks = (@decide (tx = ⟨#[]⟩) (Classical.propDecidable _) && areB ks []) from by rfl]
  have HL := Lib.hid hL
  clear hL hlen
  go_enter Try.func40, Try.ntmps40
  go_wp2_with (first | (go_at_call 34; (with_reducible refine (c_isType ⟨31, tx, n, at_, la, ll, lc⟩ _).mono ?_); rintro e w' ⟨rfl, hk1⟩; rw [show tyK (31 : Int) = false from rfl]; have b := boxed (w := w) (h := ⟨31, tx, n, at_, la, ll, lc⟩) (show Kp _ w' by (repeat (first | with_reducible exact Kp.refl _ | with_reducible refine Kp.alloc ?_ _ | with_reducible refine Kp.drew ?_ | with_reducible refine Kp.back hk4 ?_ | with_reducible refine Kp.back hk3 ?_ | with_reducible refine Kp.back hk2 ?_ | with_reducible refine Kp.back hk1 ?_))); simp only at b; obtain ⟨b0, b1, b2, b3, b4, bs⟩ := b) | (go_at_call 32; (with_reducible refine (c_isStatement ⟨31, tx, n, at_, la, ll, lc⟩ _).mono ?_); rintro e w' ⟨rfl, hk2⟩; rw [show stK (31 : Int) = false from rfl]; have b := boxed (w := w) (h := ⟨31, tx, n, at_, la, ll, lc⟩) (show Kp _ w' by (repeat (first | with_reducible exact Kp.refl _ | with_reducible refine Kp.alloc ?_ _ | with_reducible refine Kp.drew ?_ | with_reducible refine Kp.back hk4 ?_ | with_reducible refine Kp.back hk3 ?_ | with_reducible refine Kp.back hk2 ?_ | with_reducible refine Kp.back hk1 ?_))); simp only at b; obtain ⟨b0, b1, b2, b3, b4, bs⟩ := b) | (go_at_call 33; (with_reducible refine (c_isExpression ⟨31, tx, n, at_, la, ll, lc⟩ _).mono ?_); rintro e w' ⟨rfl, hk3⟩; rw [show exK (31 : Int) = true from rfl]; have b := boxed (w := w) (h := ⟨31, tx, n, at_, la, ll, lc⟩) (show Kp _ w' by (repeat (first | with_reducible exact Kp.refl _ | with_reducible refine Kp.alloc ?_ _ | with_reducible refine Kp.drew ?_ | with_reducible refine Kp.back hk4 ?_ | with_reducible refine Kp.back hk3 ?_ | with_reducible refine Kp.back hk2 ?_ | with_reducible refine Kp.back hk1 ?_))); simp only at b; obtain ⟨b0, b1, b2, b3, b4, bs⟩ := b) | (go_at_call 52; (with_reducible refine (form_31 ks tx n at_ la ll lc K _ (HL.out.keep (by (repeat (first | with_reducible exact Kp.refl _ | with_reducible refine Kp.alloc ?_ _ | with_reducible refine Kp.drew ?_ | with_reducible refine Kp.back hk4 ?_ | with_reducible refine Kp.back hk3 ?_ | with_reducible refine Kp.back hk2 ?_ | with_reducible refine Kp.back hk1 ?_)))) hcap hs).mono ?_); rintro e w' ⟨rfl, hk4⟩))
  go_ret
  refine ⟨rfl, ?_⟩
  (repeat (first | with_reducible exact Kp.refl _ | with_reducible refine Kp.alloc ?_ _ | with_reducible refine Kp.drew ?_ | with_reducible refine Kp.back hk4 ?_ | with_reducible refine Kp.back hk3 ?_ | with_reducible refine Kp.back hk2 ?_ | with_reducible refine Kp.back hk1 ?_))
set_option maxHeartbeats 3200000 in
set_option maxRecDepth 100000 in
theorem iF_32 (ks : List Int) (tx : ByteArray) (n at_ : Int) (la : Option Addr) (ll lc : Nat) (K : Nat → Hn) (w : World) (hL : ListAt w ks la ll lc K) (hcap : ll ≤ lc) (hs : tx.size ≤ 140737488351232) (hn : 0 ≤ n ∧ n ≤ 18446744073709551615) :
    Calls Try.prog 40 #[.agg #[.int .i64 32, .string tx, .int .u64 n, .int .i64 at_, .slice la ll lc]] w fun e w' => e = .returned (.bool (formB 32 tx n ks)) ∧ Kp w w' := by
  have hlen := hL.len
  rw [show formB 32 tx n ks = (eitherB tx n && areB ks []) from by rfl]
  have HL := Lib.hid hL
  clear hL hlen
  go_enter Try.func40, Try.ntmps40
  go_wp2_with (first | (go_at_call 34; (with_reducible refine (c_isType ⟨32, tx, n, at_, la, ll, lc⟩ _).mono ?_); rintro e w' ⟨rfl, hk1⟩; rw [show tyK (32 : Int) = false from rfl]; have b := boxed (w := w) (h := ⟨32, tx, n, at_, la, ll, lc⟩) (show Kp _ w' by (repeat (first | with_reducible exact Kp.refl _ | with_reducible refine Kp.alloc ?_ _ | with_reducible refine Kp.drew ?_ | with_reducible refine Kp.back hk4 ?_ | with_reducible refine Kp.back hk3 ?_ | with_reducible refine Kp.back hk2 ?_ | with_reducible refine Kp.back hk1 ?_))); simp only at b; obtain ⟨b0, b1, b2, b3, b4, bs⟩ := b) | (go_at_call 32; (with_reducible refine (c_isStatement ⟨32, tx, n, at_, la, ll, lc⟩ _).mono ?_); rintro e w' ⟨rfl, hk2⟩; rw [show stK (32 : Int) = false from rfl]; have b := boxed (w := w) (h := ⟨32, tx, n, at_, la, ll, lc⟩) (show Kp _ w' by (repeat (first | with_reducible exact Kp.refl _ | with_reducible refine Kp.alloc ?_ _ | with_reducible refine Kp.drew ?_ | with_reducible refine Kp.back hk4 ?_ | with_reducible refine Kp.back hk3 ?_ | with_reducible refine Kp.back hk2 ?_ | with_reducible refine Kp.back hk1 ?_))); simp only at b; obtain ⟨b0, b1, b2, b3, b4, bs⟩ := b) | (go_at_call 33; (with_reducible refine (c_isExpression ⟨32, tx, n, at_, la, ll, lc⟩ _).mono ?_); rintro e w' ⟨rfl, hk3⟩; rw [show exK (32 : Int) = true from rfl]; have b := boxed (w := w) (h := ⟨32, tx, n, at_, la, ll, lc⟩) (show Kp _ w' by (repeat (first | with_reducible exact Kp.refl _ | with_reducible refine Kp.alloc ?_ _ | with_reducible refine Kp.drew ?_ | with_reducible refine Kp.back hk4 ?_ | with_reducible refine Kp.back hk3 ?_ | with_reducible refine Kp.back hk2 ?_ | with_reducible refine Kp.back hk1 ?_))); simp only at b; obtain ⟨b0, b1, b2, b3, b4, bs⟩ := b) | (go_at_call 52; (with_reducible refine (form_32 ks tx n at_ la ll lc K _ (HL.out.keep (by (repeat (first | with_reducible exact Kp.refl _ | with_reducible refine Kp.alloc ?_ _ | with_reducible refine Kp.drew ?_ | with_reducible refine Kp.back hk4 ?_ | with_reducible refine Kp.back hk3 ?_ | with_reducible refine Kp.back hk2 ?_ | with_reducible refine Kp.back hk1 ?_)))) hcap hs).mono ?_); rintro e w' ⟨rfl, hk4⟩))
  go_ret
  refine ⟨rfl, ?_⟩
  (repeat (first | with_reducible exact Kp.refl _ | with_reducible refine Kp.alloc ?_ _ | with_reducible refine Kp.drew ?_ | with_reducible refine Kp.back hk4 ?_ | with_reducible refine Kp.back hk3 ?_ | with_reducible refine Kp.back hk2 ?_ | with_reducible refine Kp.back hk1 ?_))
set_option maxHeartbeats 3200000 in
set_option maxRecDepth 100000 in
theorem iF_33 (ks : List Int) (tx : ByteArray) (n at_ : Int) (la : Option Addr) (ll lc : Nat) (K : Nat → Hn) (w : World) (hL : ListAt w ks la ll lc K) (hcap : ll ≤ lc) (hs : tx.size ≤ 140737488351232) (hn : 0 ≤ n ∧ n ≤ 18446744073709551615) :
    Calls Try.prog 40 #[.agg #[.int .i64 33, .string tx, .int .u64 n, .int .i64 at_, .slice la ll lc]] w fun e w' => e = .returned (.bool (formB 33 tx n ks)) ∧ Kp w w' := by
  have hlen := hL.len
  rw [show formB 33 tx n ks = (decide (n = 0) && opB tx ll && allB ks exK) from by rw [← hlen]; rfl]
  have HL := Lib.hid hL
  clear hL hlen
  go_enter Try.func40, Try.ntmps40
  go_wp2_with (first | (go_at_call 34; (with_reducible refine (c_isType ⟨33, tx, n, at_, la, ll, lc⟩ _).mono ?_); rintro e w' ⟨rfl, hk1⟩; rw [show tyK (33 : Int) = false from rfl]; have b := boxed (w := w) (h := ⟨33, tx, n, at_, la, ll, lc⟩) (show Kp _ w' by (repeat (first | with_reducible exact Kp.refl _ | with_reducible refine Kp.alloc ?_ _ | with_reducible refine Kp.drew ?_ | with_reducible refine Kp.back hk4 ?_ | with_reducible refine Kp.back hk3 ?_ | with_reducible refine Kp.back hk2 ?_ | with_reducible refine Kp.back hk1 ?_))); simp only at b; obtain ⟨b0, b1, b2, b3, b4, bs⟩ := b) | (go_at_call 32; (with_reducible refine (c_isStatement ⟨33, tx, n, at_, la, ll, lc⟩ _).mono ?_); rintro e w' ⟨rfl, hk2⟩; rw [show stK (33 : Int) = false from rfl]; have b := boxed (w := w) (h := ⟨33, tx, n, at_, la, ll, lc⟩) (show Kp _ w' by (repeat (first | with_reducible exact Kp.refl _ | with_reducible refine Kp.alloc ?_ _ | with_reducible refine Kp.drew ?_ | with_reducible refine Kp.back hk4 ?_ | with_reducible refine Kp.back hk3 ?_ | with_reducible refine Kp.back hk2 ?_ | with_reducible refine Kp.back hk1 ?_))); simp only at b; obtain ⟨b0, b1, b2, b3, b4, bs⟩ := b) | (go_at_call 33; (with_reducible refine (c_isExpression ⟨33, tx, n, at_, la, ll, lc⟩ _).mono ?_); rintro e w' ⟨rfl, hk3⟩; rw [show exK (33 : Int) = true from rfl]; have b := boxed (w := w) (h := ⟨33, tx, n, at_, la, ll, lc⟩) (show Kp _ w' by (repeat (first | with_reducible exact Kp.refl _ | with_reducible refine Kp.alloc ?_ _ | with_reducible refine Kp.drew ?_ | with_reducible refine Kp.back hk4 ?_ | with_reducible refine Kp.back hk3 ?_ | with_reducible refine Kp.back hk2 ?_ | with_reducible refine Kp.back hk1 ?_))); simp only at b; obtain ⟨b0, b1, b2, b3, b4, bs⟩ := b) | (go_at_call 52; (with_reducible refine (form_33 ks tx n at_ la ll lc K _ (HL.out.keep (by (repeat (first | with_reducible exact Kp.refl _ | with_reducible refine Kp.alloc ?_ _ | with_reducible refine Kp.drew ?_ | with_reducible refine Kp.back hk4 ?_ | with_reducible refine Kp.back hk3 ?_ | with_reducible refine Kp.back hk2 ?_ | with_reducible refine Kp.back hk1 ?_)))) hcap hs).mono ?_); rintro e w' ⟨rfl, hk4⟩))
  go_ret
  refine ⟨rfl, ?_⟩
  (repeat (first | with_reducible exact Kp.refl _ | with_reducible refine Kp.alloc ?_ _ | with_reducible refine Kp.drew ?_ | with_reducible refine Kp.back hk4 ?_ | with_reducible refine Kp.back hk3 ?_ | with_reducible refine Kp.back hk2 ?_ | with_reducible refine Kp.back hk1 ?_))
set_option maxHeartbeats 3200000 in
set_option maxRecDepth 100000 in
theorem iF_34 (ks : List Int) (tx : ByteArray) (n at_ : Int) (la : Option Addr) (ll lc : Nat) (K : Nat → Hn) (w : World) (hL : ListAt w ks la ll lc K) (hcap : ll ≤ lc) (hs : tx.size ≤ 140737488351232) (hn : 0 ≤ n ∧ n ≤ 18446744073709551615) :
    Calls Try.prog 40 #[.agg #[.int .i64 34, .string tx, .int .u64 n, .int .i64 at_, .slice la ll lc]] w fun e w' => e = .returned (.bool (formB 34 tx n ks)) ∧ Kp w w' := by
  have hlen := hL.len
  rw [show formB 34 tx n ks = (bareB tx n && argsB ks exK) from by rfl]
  have HL := Lib.hid hL
  clear hL hlen
  go_enter Try.func40, Try.ntmps40
  go_wp2_with (first | (go_at_call 34; (with_reducible refine (c_isType ⟨34, tx, n, at_, la, ll, lc⟩ _).mono ?_); rintro e w' ⟨rfl, hk1⟩; rw [show tyK (34 : Int) = false from rfl]; have b := boxed (w := w) (h := ⟨34, tx, n, at_, la, ll, lc⟩) (show Kp _ w' by (repeat (first | with_reducible exact Kp.refl _ | with_reducible refine Kp.alloc ?_ _ | with_reducible refine Kp.drew ?_ | with_reducible refine Kp.back hk4 ?_ | with_reducible refine Kp.back hk3 ?_ | with_reducible refine Kp.back hk2 ?_ | with_reducible refine Kp.back hk1 ?_))); simp only at b; obtain ⟨b0, b1, b2, b3, b4, bs⟩ := b) | (go_at_call 32; (with_reducible refine (c_isStatement ⟨34, tx, n, at_, la, ll, lc⟩ _).mono ?_); rintro e w' ⟨rfl, hk2⟩; rw [show stK (34 : Int) = false from rfl]; have b := boxed (w := w) (h := ⟨34, tx, n, at_, la, ll, lc⟩) (show Kp _ w' by (repeat (first | with_reducible exact Kp.refl _ | with_reducible refine Kp.alloc ?_ _ | with_reducible refine Kp.drew ?_ | with_reducible refine Kp.back hk4 ?_ | with_reducible refine Kp.back hk3 ?_ | with_reducible refine Kp.back hk2 ?_ | with_reducible refine Kp.back hk1 ?_))); simp only at b; obtain ⟨b0, b1, b2, b3, b4, bs⟩ := b) | (go_at_call 33; (with_reducible refine (c_isExpression ⟨34, tx, n, at_, la, ll, lc⟩ _).mono ?_); rintro e w' ⟨rfl, hk3⟩; rw [show exK (34 : Int) = true from rfl]; have b := boxed (w := w) (h := ⟨34, tx, n, at_, la, ll, lc⟩) (show Kp _ w' by (repeat (first | with_reducible exact Kp.refl _ | with_reducible refine Kp.alloc ?_ _ | with_reducible refine Kp.drew ?_ | with_reducible refine Kp.back hk4 ?_ | with_reducible refine Kp.back hk3 ?_ | with_reducible refine Kp.back hk2 ?_ | with_reducible refine Kp.back hk1 ?_))); simp only at b; obtain ⟨b0, b1, b2, b3, b4, bs⟩ := b) | (go_at_call 52; (with_reducible refine (form_34 ks tx n at_ la ll lc K _ (HL.out.keep (by (repeat (first | with_reducible exact Kp.refl _ | with_reducible refine Kp.alloc ?_ _ | with_reducible refine Kp.drew ?_ | with_reducible refine Kp.back hk4 ?_ | with_reducible refine Kp.back hk3 ?_ | with_reducible refine Kp.back hk2 ?_ | with_reducible refine Kp.back hk1 ?_)))) hcap hs).mono ?_); rintro e w' ⟨rfl, hk4⟩))
  go_ret
  refine ⟨rfl, ?_⟩
  (repeat (first | with_reducible exact Kp.refl _ | with_reducible refine Kp.alloc ?_ _ | with_reducible refine Kp.drew ?_ | with_reducible refine Kp.back hk4 ?_ | with_reducible refine Kp.back hk3 ?_ | with_reducible refine Kp.back hk2 ?_ | with_reducible refine Kp.back hk1 ?_))
set_option maxHeartbeats 3200000 in
set_option maxRecDepth 100000 in
theorem iF_35 (ks : List Int) (tx : ByteArray) (n at_ : Int) (la : Option Addr) (ll lc : Nat) (K : Nat → Hn) (w : World) (hL : ListAt w ks la ll lc K) (hcap : ll ≤ lc) (hs : tx.size ≤ 140737488351232) (hn : 0 ≤ n ∧ n ≤ 18446744073709551615) :
    Calls Try.prog 40 #[.agg #[.int .i64 35, .string tx, .int .u64 n, .int .i64 at_, .slice la ll lc]] w fun e w' => e = .returned (.bool (formB 35 tx n ks)) ∧ Kp w w' := by
  have hlen := hL.len
  rw [show formB 35 tx n ks = (namedB tx n && areB ks [exK]) from by rfl]
  have HL := Lib.hid hL
  clear hL hlen
  go_enter Try.func40, Try.ntmps40
  go_wp2_with (first | (go_at_call 34; (with_reducible refine (c_isType ⟨35, tx, n, at_, la, ll, lc⟩ _).mono ?_); rintro e w' ⟨rfl, hk1⟩; rw [show tyK (35 : Int) = false from rfl]; have b := boxed (w := w) (h := ⟨35, tx, n, at_, la, ll, lc⟩) (show Kp _ w' by (repeat (first | with_reducible exact Kp.refl _ | with_reducible refine Kp.alloc ?_ _ | with_reducible refine Kp.drew ?_ | with_reducible refine Kp.back hk4 ?_ | with_reducible refine Kp.back hk3 ?_ | with_reducible refine Kp.back hk2 ?_ | with_reducible refine Kp.back hk1 ?_))); simp only at b; obtain ⟨b0, b1, b2, b3, b4, bs⟩ := b) | (go_at_call 32; (with_reducible refine (c_isStatement ⟨35, tx, n, at_, la, ll, lc⟩ _).mono ?_); rintro e w' ⟨rfl, hk2⟩; rw [show stK (35 : Int) = false from rfl]; have b := boxed (w := w) (h := ⟨35, tx, n, at_, la, ll, lc⟩) (show Kp _ w' by (repeat (first | with_reducible exact Kp.refl _ | with_reducible refine Kp.alloc ?_ _ | with_reducible refine Kp.drew ?_ | with_reducible refine Kp.back hk4 ?_ | with_reducible refine Kp.back hk3 ?_ | with_reducible refine Kp.back hk2 ?_ | with_reducible refine Kp.back hk1 ?_))); simp only at b; obtain ⟨b0, b1, b2, b3, b4, bs⟩ := b) | (go_at_call 33; (with_reducible refine (c_isExpression ⟨35, tx, n, at_, la, ll, lc⟩ _).mono ?_); rintro e w' ⟨rfl, hk3⟩; rw [show exK (35 : Int) = true from rfl]; have b := boxed (w := w) (h := ⟨35, tx, n, at_, la, ll, lc⟩) (show Kp _ w' by (repeat (first | with_reducible exact Kp.refl _ | with_reducible refine Kp.alloc ?_ _ | with_reducible refine Kp.drew ?_ | with_reducible refine Kp.back hk4 ?_ | with_reducible refine Kp.back hk3 ?_ | with_reducible refine Kp.back hk2 ?_ | with_reducible refine Kp.back hk1 ?_))); simp only at b; obtain ⟨b0, b1, b2, b3, b4, bs⟩ := b) | (go_at_call 52; (with_reducible refine (form_35 ks tx n at_ la ll lc K _ (HL.out.keep (by (repeat (first | with_reducible exact Kp.refl _ | with_reducible refine Kp.alloc ?_ _ | with_reducible refine Kp.drew ?_ | with_reducible refine Kp.back hk4 ?_ | with_reducible refine Kp.back hk3 ?_ | with_reducible refine Kp.back hk2 ?_ | with_reducible refine Kp.back hk1 ?_)))) hcap hs).mono ?_); rintro e w' ⟨rfl, hk4⟩))
  go_ret
  refine ⟨rfl, ?_⟩
  (repeat (first | with_reducible exact Kp.refl _ | with_reducible refine Kp.alloc ?_ _ | with_reducible refine Kp.drew ?_ | with_reducible refine Kp.back hk4 ?_ | with_reducible refine Kp.back hk3 ?_ | with_reducible refine Kp.back hk2 ?_ | with_reducible refine Kp.back hk1 ?_))
set_option maxHeartbeats 3200000 in
set_option maxRecDepth 100000 in
theorem iF_36 (ks : List Int) (tx : ByteArray) (n at_ : Int) (la : Option Addr) (ll lc : Nat) (K : Nat → Hn) (w : World) (hL : ListAt w ks la ll lc K) (hcap : ll ≤ lc) (hs : tx.size ≤ 140737488351232) (hn : 0 ≤ n ∧ n ≤ 18446744073709551615) :
    Calls Try.prog 40 #[.agg #[.int .i64 36, .string tx, .int .u64 n, .int .i64 at_, .slice la ll lc]] w fun e w' => e = .returned (.bool (formB 36 tx n ks)) ∧ Kp w w' := by
  have hlen := hL.len
  rw [show formB 36 tx n ks = (bareB tx n && decide (1 < ll) && argsB ks brK) from by rw [← hlen]; rfl]
  have HL := Lib.hid hL
  clear hL hlen
  go_enter Try.func40, Try.ntmps40
  go_wp2_with (first | (go_at_call 34; (with_reducible refine (c_isType ⟨36, tx, n, at_, la, ll, lc⟩ _).mono ?_); rintro e w' ⟨rfl, hk1⟩; rw [show tyK (36 : Int) = false from rfl]; have b := boxed (w := w) (h := ⟨36, tx, n, at_, la, ll, lc⟩) (show Kp _ w' by (repeat (first | with_reducible exact Kp.refl _ | with_reducible refine Kp.alloc ?_ _ | with_reducible refine Kp.drew ?_ | with_reducible refine Kp.back hk4 ?_ | with_reducible refine Kp.back hk3 ?_ | with_reducible refine Kp.back hk2 ?_ | with_reducible refine Kp.back hk1 ?_))); simp only at b; obtain ⟨b0, b1, b2, b3, b4, bs⟩ := b) | (go_at_call 32; (with_reducible refine (c_isStatement ⟨36, tx, n, at_, la, ll, lc⟩ _).mono ?_); rintro e w' ⟨rfl, hk2⟩; rw [show stK (36 : Int) = false from rfl]; have b := boxed (w := w) (h := ⟨36, tx, n, at_, la, ll, lc⟩) (show Kp _ w' by (repeat (first | with_reducible exact Kp.refl _ | with_reducible refine Kp.alloc ?_ _ | with_reducible refine Kp.drew ?_ | with_reducible refine Kp.back hk4 ?_ | with_reducible refine Kp.back hk3 ?_ | with_reducible refine Kp.back hk2 ?_ | with_reducible refine Kp.back hk1 ?_))); simp only at b; obtain ⟨b0, b1, b2, b3, b4, bs⟩ := b) | (go_at_call 33; (with_reducible refine (c_isExpression ⟨36, tx, n, at_, la, ll, lc⟩ _).mono ?_); rintro e w' ⟨rfl, hk3⟩; rw [show exK (36 : Int) = true from rfl]; have b := boxed (w := w) (h := ⟨36, tx, n, at_, la, ll, lc⟩) (show Kp _ w' by (repeat (first | with_reducible exact Kp.refl _ | with_reducible refine Kp.alloc ?_ _ | with_reducible refine Kp.drew ?_ | with_reducible refine Kp.back hk4 ?_ | with_reducible refine Kp.back hk3 ?_ | with_reducible refine Kp.back hk2 ?_ | with_reducible refine Kp.back hk1 ?_))); simp only at b; obtain ⟨b0, b1, b2, b3, b4, bs⟩ := b) | (go_at_call 52; (with_reducible refine (form_36 ks tx n at_ la ll lc K _ (HL.out.keep (by (repeat (first | with_reducible exact Kp.refl _ | with_reducible refine Kp.alloc ?_ _ | with_reducible refine Kp.drew ?_ | with_reducible refine Kp.back hk4 ?_ | with_reducible refine Kp.back hk3 ?_ | with_reducible refine Kp.back hk2 ?_ | with_reducible refine Kp.back hk1 ?_)))) hcap hs).mono ?_); rintro e w' ⟨rfl, hk4⟩))
  go_ret
  refine ⟨rfl, ?_⟩
  (repeat (first | with_reducible exact Kp.refl _ | with_reducible refine Kp.alloc ?_ _ | with_reducible refine Kp.drew ?_ | with_reducible refine Kp.back hk4 ?_ | with_reducible refine Kp.back hk3 ?_ | with_reducible refine Kp.back hk2 ?_ | with_reducible refine Kp.back hk1 ?_))
set_option maxHeartbeats 3200000 in
set_option maxRecDepth 100000 in
theorem iF_37 (ks : List Int) (tx : ByteArray) (n at_ : Int) (la : Option Addr) (ll lc : Nat) (K : Nat → Hn) (w : World) (hL : ListAt w ks la ll lc K) (hcap : ll ≤ lc) (hs : tx.size ≤ 140737488351232) (hn : 0 ≤ n ∧ n ≤ 18446744073709551615) :
    Calls Try.prog 40 #[.agg #[.int .i64 37, .string tx, .int .u64 n, .int .i64 at_, .slice la ll lc]] w fun e w' => e = .returned (.bool (formB 37 tx n ks)) ∧ Kp w w' := by
  have hlen := hL.len
  rw [show formB 37 tx n ks = (namedB tx n && fewB ks exK) from by rfl]
  have HL := Lib.hid hL
  clear hL hlen
  go_enter Try.func40, Try.ntmps40
  go_wp2_with (first | (go_at_call 34; (with_reducible refine (c_isType ⟨37, tx, n, at_, la, ll, lc⟩ _).mono ?_); rintro e w' ⟨rfl, hk1⟩; rw [show tyK (37 : Int) = false from rfl]; have b := boxed (w := w) (h := ⟨37, tx, n, at_, la, ll, lc⟩) (show Kp _ w' by (repeat (first | with_reducible exact Kp.refl _ | with_reducible refine Kp.alloc ?_ _ | with_reducible refine Kp.drew ?_ | with_reducible refine Kp.back hk4 ?_ | with_reducible refine Kp.back hk3 ?_ | with_reducible refine Kp.back hk2 ?_ | with_reducible refine Kp.back hk1 ?_))); simp only at b; obtain ⟨b0, b1, b2, b3, b4, bs⟩ := b) | (go_at_call 32; (with_reducible refine (c_isStatement ⟨37, tx, n, at_, la, ll, lc⟩ _).mono ?_); rintro e w' ⟨rfl, hk2⟩; rw [show stK (37 : Int) = false from rfl]; have b := boxed (w := w) (h := ⟨37, tx, n, at_, la, ll, lc⟩) (show Kp _ w' by (repeat (first | with_reducible exact Kp.refl _ | with_reducible refine Kp.alloc ?_ _ | with_reducible refine Kp.drew ?_ | with_reducible refine Kp.back hk4 ?_ | with_reducible refine Kp.back hk3 ?_ | with_reducible refine Kp.back hk2 ?_ | with_reducible refine Kp.back hk1 ?_))); simp only at b; obtain ⟨b0, b1, b2, b3, b4, bs⟩ := b) | (go_at_call 33; (with_reducible refine (c_isExpression ⟨37, tx, n, at_, la, ll, lc⟩ _).mono ?_); rintro e w' ⟨rfl, hk3⟩; rw [show exK (37 : Int) = true from rfl]; have b := boxed (w := w) (h := ⟨37, tx, n, at_, la, ll, lc⟩) (show Kp _ w' by (repeat (first | with_reducible exact Kp.refl _ | with_reducible refine Kp.alloc ?_ _ | with_reducible refine Kp.drew ?_ | with_reducible refine Kp.back hk4 ?_ | with_reducible refine Kp.back hk3 ?_ | with_reducible refine Kp.back hk2 ?_ | with_reducible refine Kp.back hk1 ?_))); simp only at b; obtain ⟨b0, b1, b2, b3, b4, bs⟩ := b) | (go_at_call 52; (with_reducible refine (form_37 ks tx n at_ la ll lc K _ (HL.out.keep (by (repeat (first | with_reducible exact Kp.refl _ | with_reducible refine Kp.alloc ?_ _ | with_reducible refine Kp.drew ?_ | with_reducible refine Kp.back hk4 ?_ | with_reducible refine Kp.back hk3 ?_ | with_reducible refine Kp.back hk2 ?_ | with_reducible refine Kp.back hk1 ?_)))) hcap hs).mono ?_); rintro e w' ⟨rfl, hk4⟩))
  go_ret
  refine ⟨rfl, ?_⟩
  (repeat (first | with_reducible exact Kp.refl _ | with_reducible refine Kp.alloc ?_ _ | with_reducible refine Kp.drew ?_ | with_reducible refine Kp.back hk4 ?_ | with_reducible refine Kp.back hk3 ?_ | with_reducible refine Kp.back hk2 ?_ | with_reducible refine Kp.back hk1 ?_))
set_option maxHeartbeats 3200000 in
set_option maxRecDepth 100000 in
theorem iF_38 (ks : List Int) (tx : ByteArray) (n at_ : Int) (la : Option Addr) (ll lc : Nat) (K : Nat → Hn) (w : World) (hL : ListAt w ks la ll lc K) (hcap : ll ≤ lc) (hs : tx.size ≤ 140737488351232) (hn : 0 ≤ n ∧ n ≤ 18446744073709551615) :
    Calls Try.prog 40 #[.agg #[.int .i64 38, .string tx, .int .u64 n, .int .i64 at_, .slice la ll lc]] w fun e w' => e = .returned (.bool (formB 38 tx n ks)) ∧ Kp w w' := by
  have hlen := hL.len
  rw [show formB 38 tx n ks = (bareB tx n && areB ks [(inK [6]), (inK [7]), (inK [20])]) from by rfl]
  have HL := Lib.hid hL
  clear hL hlen
  go_enter Try.func40, Try.ntmps40
  go_wp2_with (first | (go_at_call 34; (with_reducible refine (c_isType ⟨38, tx, n, at_, la, ll, lc⟩ _).mono ?_); rintro e w' ⟨rfl, hk1⟩; rw [show tyK (38 : Int) = false from rfl]; have b := boxed (w := w) (h := ⟨38, tx, n, at_, la, ll, lc⟩) (show Kp _ w' by (repeat (first | with_reducible exact Kp.refl _ | with_reducible refine Kp.alloc ?_ _ | with_reducible refine Kp.drew ?_ | with_reducible refine Kp.back hk4 ?_ | with_reducible refine Kp.back hk3 ?_ | with_reducible refine Kp.back hk2 ?_ | with_reducible refine Kp.back hk1 ?_))); simp only at b; obtain ⟨b0, b1, b2, b3, b4, bs⟩ := b) | (go_at_call 32; (with_reducible refine (c_isStatement ⟨38, tx, n, at_, la, ll, lc⟩ _).mono ?_); rintro e w' ⟨rfl, hk2⟩; rw [show stK (38 : Int) = false from rfl]; have b := boxed (w := w) (h := ⟨38, tx, n, at_, la, ll, lc⟩) (show Kp _ w' by (repeat (first | with_reducible exact Kp.refl _ | with_reducible refine Kp.alloc ?_ _ | with_reducible refine Kp.drew ?_ | with_reducible refine Kp.back hk4 ?_ | with_reducible refine Kp.back hk3 ?_ | with_reducible refine Kp.back hk2 ?_ | with_reducible refine Kp.back hk1 ?_))); simp only at b; obtain ⟨b0, b1, b2, b3, b4, bs⟩ := b) | (go_at_call 33; (with_reducible refine (c_isExpression ⟨38, tx, n, at_, la, ll, lc⟩ _).mono ?_); rintro e w' ⟨rfl, hk3⟩; rw [show exK (38 : Int) = true from rfl]; have b := boxed (w := w) (h := ⟨38, tx, n, at_, la, ll, lc⟩) (show Kp _ w' by (repeat (first | with_reducible exact Kp.refl _ | with_reducible refine Kp.alloc ?_ _ | with_reducible refine Kp.drew ?_ | with_reducible refine Kp.back hk4 ?_ | with_reducible refine Kp.back hk3 ?_ | with_reducible refine Kp.back hk2 ?_ | with_reducible refine Kp.back hk1 ?_))); simp only at b; obtain ⟨b0, b1, b2, b3, b4, bs⟩ := b) | (go_at_call 52; (with_reducible refine (form_38 ks tx n at_ la ll lc K _ (HL.out.keep (by (repeat (first | with_reducible exact Kp.refl _ | with_reducible refine Kp.alloc ?_ _ | with_reducible refine Kp.drew ?_ | with_reducible refine Kp.back hk4 ?_ | with_reducible refine Kp.back hk3 ?_ | with_reducible refine Kp.back hk2 ?_ | with_reducible refine Kp.back hk1 ?_)))) hcap hs).mono ?_); rintro e w' ⟨rfl, hk4⟩))
  go_ret
  refine ⟨rfl, ?_⟩
  (repeat (first | with_reducible exact Kp.refl _ | with_reducible refine Kp.alloc ?_ _ | with_reducible refine Kp.drew ?_ | with_reducible refine Kp.back hk4 ?_ | with_reducible refine Kp.back hk3 ?_ | with_reducible refine Kp.back hk2 ?_ | with_reducible refine Kp.back hk1 ?_))
set_option maxHeartbeats 3200000 in
set_option maxRecDepth 100000 in
theorem iF_39 (ks : List Int) (tx : ByteArray) (n at_ : Int) (la : Option Addr) (ll lc : Nat) (K : Nat → Hn) (w : World) (hL : ListAt w ks la ll lc K) (hcap : ll ≤ lc) (hs : tx.size ≤ 140737488351232) (hn : 0 ≤ n ∧ n ≤ 18446744073709551615) :
    Calls Try.prog 40 #[.agg #[.int .i64 39, .string tx, .int .u64 n, .int .i64 at_, .slice la ll lc]] w fun e w' => e = .returned (.bool (formB 39 tx n ks)) ∧ Kp w w' := by
  have hlen := hL.len
  rw [show formB 39 tx n ks = (bareB tx n && areB ks [exK]) from by rfl]
  have HL := Lib.hid hL
  clear hL hlen
  go_enter Try.func40, Try.ntmps40
  go_wp2_with (first | (go_at_call 34; (with_reducible refine (c_isType ⟨39, tx, n, at_, la, ll, lc⟩ _).mono ?_); rintro e w' ⟨rfl, hk1⟩; rw [show tyK (39 : Int) = false from rfl]; have b := boxed (w := w) (h := ⟨39, tx, n, at_, la, ll, lc⟩) (show Kp _ w' by (repeat (first | with_reducible exact Kp.refl _ | with_reducible refine Kp.alloc ?_ _ | with_reducible refine Kp.drew ?_ | with_reducible refine Kp.back hk4 ?_ | with_reducible refine Kp.back hk3 ?_ | with_reducible refine Kp.back hk2 ?_ | with_reducible refine Kp.back hk1 ?_))); simp only at b; obtain ⟨b0, b1, b2, b3, b4, bs⟩ := b) | (go_at_call 32; (with_reducible refine (c_isStatement ⟨39, tx, n, at_, la, ll, lc⟩ _).mono ?_); rintro e w' ⟨rfl, hk2⟩; rw [show stK (39 : Int) = false from rfl]; have b := boxed (w := w) (h := ⟨39, tx, n, at_, la, ll, lc⟩) (show Kp _ w' by (repeat (first | with_reducible exact Kp.refl _ | with_reducible refine Kp.alloc ?_ _ | with_reducible refine Kp.drew ?_ | with_reducible refine Kp.back hk4 ?_ | with_reducible refine Kp.back hk3 ?_ | with_reducible refine Kp.back hk2 ?_ | with_reducible refine Kp.back hk1 ?_))); simp only at b; obtain ⟨b0, b1, b2, b3, b4, bs⟩ := b) | (go_at_call 33; (with_reducible refine (c_isExpression ⟨39, tx, n, at_, la, ll, lc⟩ _).mono ?_); rintro e w' ⟨rfl, hk3⟩; rw [show exK (39 : Int) = true from rfl]; have b := boxed (w := w) (h := ⟨39, tx, n, at_, la, ll, lc⟩) (show Kp _ w' by (repeat (first | with_reducible exact Kp.refl _ | with_reducible refine Kp.alloc ?_ _ | with_reducible refine Kp.drew ?_ | with_reducible refine Kp.back hk4 ?_ | with_reducible refine Kp.back hk3 ?_ | with_reducible refine Kp.back hk2 ?_ | with_reducible refine Kp.back hk1 ?_))); simp only at b; obtain ⟨b0, b1, b2, b3, b4, bs⟩ := b) | (go_at_call 52; (with_reducible refine (form_39 ks tx n at_ la ll lc K _ (HL.out.keep (by (repeat (first | with_reducible exact Kp.refl _ | with_reducible refine Kp.alloc ?_ _ | with_reducible refine Kp.drew ?_ | with_reducible refine Kp.back hk4 ?_ | with_reducible refine Kp.back hk3 ?_ | with_reducible refine Kp.back hk2 ?_ | with_reducible refine Kp.back hk1 ?_)))) hcap hs).mono ?_); rintro e w' ⟨rfl, hk4⟩))
  go_ret
  refine ⟨rfl, ?_⟩
  (repeat (first | with_reducible exact Kp.refl _ | with_reducible refine Kp.alloc ?_ _ | with_reducible refine Kp.drew ?_ | with_reducible refine Kp.back hk4 ?_ | with_reducible refine Kp.back hk3 ?_ | with_reducible refine Kp.back hk2 ?_ | with_reducible refine Kp.back hk1 ?_))
set_option maxHeartbeats 3200000 in
set_option maxRecDepth 100000 in
theorem iF_40 (ks : List Int) (tx : ByteArray) (n at_ : Int) (la : Option Addr) (ll lc : Nat) (K : Nat → Hn) (w : World) (hL : ListAt w ks la ll lc K) (hcap : ll ≤ lc) (hs : tx.size ≤ 140737488351232) (hn : 0 ≤ n ∧ n ≤ 18446744073709551615) :
    Calls Try.prog 40 #[.agg #[.int .i64 40, .string tx, .int .u64 n, .int .i64 at_, .slice la ll lc]] w fun e w' => e = .returned (.bool (formB 40 tx n ks)) ∧ Kp w w' := by
  have hlen := hL.len
  rw [show formB 40 tx n ks = (bareB tx n && areB ks [tyK, exK]) from by rfl]
  have HL := Lib.hid hL
  clear hL hlen
  go_enter Try.func40, Try.ntmps40
  go_wp2_with (first | (go_at_call 34; (with_reducible refine (c_isType ⟨40, tx, n, at_, la, ll, lc⟩ _).mono ?_); rintro e w' ⟨rfl, hk1⟩; rw [show tyK (40 : Int) = false from rfl]; have b := boxed (w := w) (h := ⟨40, tx, n, at_, la, ll, lc⟩) (show Kp _ w' by (repeat (first | with_reducible exact Kp.refl _ | with_reducible refine Kp.alloc ?_ _ | with_reducible refine Kp.drew ?_ | with_reducible refine Kp.back hk4 ?_ | with_reducible refine Kp.back hk3 ?_ | with_reducible refine Kp.back hk2 ?_ | with_reducible refine Kp.back hk1 ?_))); simp only at b; obtain ⟨b0, b1, b2, b3, b4, bs⟩ := b) | (go_at_call 32; (with_reducible refine (c_isStatement ⟨40, tx, n, at_, la, ll, lc⟩ _).mono ?_); rintro e w' ⟨rfl, hk2⟩; rw [show stK (40 : Int) = false from rfl]; have b := boxed (w := w) (h := ⟨40, tx, n, at_, la, ll, lc⟩) (show Kp _ w' by (repeat (first | with_reducible exact Kp.refl _ | with_reducible refine Kp.alloc ?_ _ | with_reducible refine Kp.drew ?_ | with_reducible refine Kp.back hk4 ?_ | with_reducible refine Kp.back hk3 ?_ | with_reducible refine Kp.back hk2 ?_ | with_reducible refine Kp.back hk1 ?_))); simp only at b; obtain ⟨b0, b1, b2, b3, b4, bs⟩ := b) | (go_at_call 33; (with_reducible refine (c_isExpression ⟨40, tx, n, at_, la, ll, lc⟩ _).mono ?_); rintro e w' ⟨rfl, hk3⟩; rw [show exK (40 : Int) = true from rfl]; have b := boxed (w := w) (h := ⟨40, tx, n, at_, la, ll, lc⟩) (show Kp _ w' by (repeat (first | with_reducible exact Kp.refl _ | with_reducible refine Kp.alloc ?_ _ | with_reducible refine Kp.drew ?_ | with_reducible refine Kp.back hk4 ?_ | with_reducible refine Kp.back hk3 ?_ | with_reducible refine Kp.back hk2 ?_ | with_reducible refine Kp.back hk1 ?_))); simp only at b; obtain ⟨b0, b1, b2, b3, b4, bs⟩ := b) | (go_at_call 52; (with_reducible refine (form_40 ks tx n at_ la ll lc K _ (HL.out.keep (by (repeat (first | with_reducible exact Kp.refl _ | with_reducible refine Kp.alloc ?_ _ | with_reducible refine Kp.drew ?_ | with_reducible refine Kp.back hk4 ?_ | with_reducible refine Kp.back hk3 ?_ | with_reducible refine Kp.back hk2 ?_ | with_reducible refine Kp.back hk1 ?_)))) hcap hs).mono ?_); rintro e w' ⟨rfl, hk4⟩))
  go_ret
  refine ⟨rfl, ?_⟩
  (repeat (first | with_reducible exact Kp.refl _ | with_reducible refine Kp.alloc ?_ _ | with_reducible refine Kp.drew ?_ | with_reducible refine Kp.back hk4 ?_ | with_reducible refine Kp.back hk3 ?_ | with_reducible refine Kp.back hk2 ?_ | with_reducible refine Kp.back hk1 ?_))
set_option maxHeartbeats 3200000 in
set_option maxRecDepth 100000 in
theorem iF_41 (ks : List Int) (tx : ByteArray) (n at_ : Int) (la : Option Addr) (ll lc : Nat) (K : Nat → Hn) (w : World) (hL : ListAt w ks la ll lc K) (hcap : ll ≤ lc) (hs : tx.size ≤ 140737488351232) (hn : 0 ≤ n ∧ n ≤ 18446744073709551615) :
    Calls Try.prog 40 #[.agg #[.int .i64 41, .string tx, .int .u64 n, .int .i64 at_, .slice la ll lc]] w fun e w' => e = .returned (.bool (formB 41 tx n ks)) ∧ Kp w w' := by
  have hlen := hL.len
  rw [show formB 41 tx n ks = (bareB tx n && areB ks [exK, exK]) from by rfl]
  have HL := Lib.hid hL
  clear hL hlen
  go_enter Try.func40, Try.ntmps40
  go_wp2_with (first | (go_at_call 34; (with_reducible refine (c_isType ⟨41, tx, n, at_, la, ll, lc⟩ _).mono ?_); rintro e w' ⟨rfl, hk1⟩; rw [show tyK (41 : Int) = false from rfl]; have b := boxed (w := w) (h := ⟨41, tx, n, at_, la, ll, lc⟩) (show Kp _ w' by (repeat (first | with_reducible exact Kp.refl _ | with_reducible refine Kp.alloc ?_ _ | with_reducible refine Kp.drew ?_ | with_reducible refine Kp.back hk4 ?_ | with_reducible refine Kp.back hk3 ?_ | with_reducible refine Kp.back hk2 ?_ | with_reducible refine Kp.back hk1 ?_))); simp only at b; obtain ⟨b0, b1, b2, b3, b4, bs⟩ := b) | (go_at_call 32; (with_reducible refine (c_isStatement ⟨41, tx, n, at_, la, ll, lc⟩ _).mono ?_); rintro e w' ⟨rfl, hk2⟩; rw [show stK (41 : Int) = true from rfl]; have b := boxed (w := w) (h := ⟨41, tx, n, at_, la, ll, lc⟩) (show Kp _ w' by (repeat (first | with_reducible exact Kp.refl _ | with_reducible refine Kp.alloc ?_ _ | with_reducible refine Kp.drew ?_ | with_reducible refine Kp.back hk4 ?_ | with_reducible refine Kp.back hk3 ?_ | with_reducible refine Kp.back hk2 ?_ | with_reducible refine Kp.back hk1 ?_))); simp only at b; obtain ⟨b0, b1, b2, b3, b4, bs⟩ := b) | (go_at_call 51; (with_reducible refine (form_41 ks tx n at_ la ll lc K _ (HL.out.keep (by (repeat (first | with_reducible exact Kp.refl _ | with_reducible refine Kp.alloc ?_ _ | with_reducible refine Kp.drew ?_ | with_reducible refine Kp.back hk4 ?_ | with_reducible refine Kp.back hk3 ?_ | with_reducible refine Kp.back hk2 ?_ | with_reducible refine Kp.back hk1 ?_)))) hcap hs).mono ?_); rintro e w' ⟨rfl, hk4⟩))
  go_ret
  refine ⟨rfl, ?_⟩
  (repeat (first | with_reducible exact Kp.refl _ | with_reducible refine Kp.alloc ?_ _ | with_reducible refine Kp.drew ?_ | with_reducible refine Kp.back hk4 ?_ | with_reducible refine Kp.back hk3 ?_ | with_reducible refine Kp.back hk2 ?_ | with_reducible refine Kp.back hk1 ?_))
set_option maxHeartbeats 3200000 in
set_option maxRecDepth 100000 in
theorem iF_42 (ks : List Int) (tx : ByteArray) (n at_ : Int) (la : Option Addr) (ll lc : Nat) (K : Nat → Hn) (w : World) (hL : ListAt w ks la ll lc K) (hcap : ll ≤ lc) (hs : tx.size ≤ 140737488351232) (hn : 0 ≤ n ∧ n ≤ 18446744073709551615) :
    Calls Try.prog 40 #[.agg #[.int .i64 42, .string tx, .int .u64 n, .int .i64 at_, .slice la ll lc]] w fun e w' => e = .returned (.bool (formB 42 tx n ks)) ∧ Kp w w' := by
  have hlen := hL.len
  rw [show formB 42 tx n ks = (bareB tx n && allB ks (inK [43, 44, 45]) && decide (countD ks ≤ 1)) from by rfl]
  have HL := Lib.hid hL
  clear hL hlen
  go_enter Try.func40, Try.ntmps40
  go_wp2_with (first | (go_at_call 34; (with_reducible refine (c_isType ⟨42, tx, n, at_, la, ll, lc⟩ _).mono ?_); rintro e w' ⟨rfl, hk1⟩; rw [show tyK (42 : Int) = false from rfl]; have b := boxed (w := w) (h := ⟨42, tx, n, at_, la, ll, lc⟩) (show Kp _ w' by (repeat (first | with_reducible exact Kp.refl _ | with_reducible refine Kp.alloc ?_ _ | with_reducible refine Kp.drew ?_ | with_reducible refine Kp.back hk4 ?_ | with_reducible refine Kp.back hk3 ?_ | with_reducible refine Kp.back hk2 ?_ | with_reducible refine Kp.back hk1 ?_))); simp only at b; obtain ⟨b0, b1, b2, b3, b4, bs⟩ := b) | (go_at_call 32; (with_reducible refine (c_isStatement ⟨42, tx, n, at_, la, ll, lc⟩ _).mono ?_); rintro e w' ⟨rfl, hk2⟩; rw [show stK (42 : Int) = true from rfl]; have b := boxed (w := w) (h := ⟨42, tx, n, at_, la, ll, lc⟩) (show Kp _ w' by (repeat (first | with_reducible exact Kp.refl _ | with_reducible refine Kp.alloc ?_ _ | with_reducible refine Kp.drew ?_ | with_reducible refine Kp.back hk4 ?_ | with_reducible refine Kp.back hk3 ?_ | with_reducible refine Kp.back hk2 ?_ | with_reducible refine Kp.back hk1 ?_))); simp only at b; obtain ⟨b0, b1, b2, b3, b4, bs⟩ := b) | (go_at_call 51; (with_reducible refine (form_42 ks tx n at_ la ll lc K _ (HL.out.keep (by (repeat (first | with_reducible exact Kp.refl _ | with_reducible refine Kp.alloc ?_ _ | with_reducible refine Kp.drew ?_ | with_reducible refine Kp.back hk4 ?_ | with_reducible refine Kp.back hk3 ?_ | with_reducible refine Kp.back hk2 ?_ | with_reducible refine Kp.back hk1 ?_)))) hcap hs).mono ?_); rintro e w' ⟨rfl, hk4⟩))
  go_ret
  refine ⟨rfl, ?_⟩
  (repeat (first | with_reducible exact Kp.refl _ | with_reducible refine Kp.alloc ?_ _ | with_reducible refine Kp.drew ?_ | with_reducible refine Kp.back hk4 ?_ | with_reducible refine Kp.back hk3 ?_ | with_reducible refine Kp.back hk2 ?_ | with_reducible refine Kp.back hk1 ?_))
set_option maxHeartbeats 3200000 in
set_option maxRecDepth 100000 in
theorem iF_43 (ks : List Int) (tx : ByteArray) (n at_ : Int) (la : Option Addr) (ll lc : Nat) (K : Nat → Hn) (w : World) (hL : ListAt w ks la ll lc K) (hcap : ll ≤ lc) (hs : tx.size ≤ 140737488351232) (hn : 0 ≤ n ∧ n ≤ 18446744073709551615) :
    Calls Try.prog 40 #[.agg #[.int .i64 43, .string tx, .int .u64 n, .int .i64 at_, .slice la ll lc]] w fun e w' => e = .returned (.bool (formB 43 tx n ks)) ∧ Kp w w' := by
  have hlen := hL.len
  rw [show formB 43 tx n ks = ((bareB tx n || namedB tx n) && areB ks [exK, inK [20]]) from by rfl]
  have HL := Lib.hid hL
  clear hL hlen
  go_enter Try.func40, Try.ntmps40
  go_wp2_with (first | (go_at_call 34; (with_reducible refine (c_isType ⟨43, tx, n, at_, la, ll, lc⟩ _).mono ?_); rintro e w' ⟨rfl, hk1⟩; rw [show tyK (43 : Int) = false from rfl]; have b := boxed (w := w) (h := ⟨43, tx, n, at_, la, ll, lc⟩) (show Kp _ w' by (repeat (first | with_reducible exact Kp.refl _ | with_reducible refine Kp.alloc ?_ _ | with_reducible refine Kp.drew ?_ | with_reducible refine Kp.back hk4 ?_ | with_reducible refine Kp.back hk3 ?_ | with_reducible refine Kp.back hk2 ?_ | with_reducible refine Kp.back hk1 ?_))); simp only at b; obtain ⟨b0, b1, b2, b3, b4, bs⟩ := b) | (go_at_call 32; (with_reducible refine (c_isStatement ⟨43, tx, n, at_, la, ll, lc⟩ _).mono ?_); rintro e w' ⟨rfl, hk2⟩; rw [show stK (43 : Int) = false from rfl]; have b := boxed (w := w) (h := ⟨43, tx, n, at_, la, ll, lc⟩) (show Kp _ w' by (repeat (first | with_reducible exact Kp.refl _ | with_reducible refine Kp.alloc ?_ _ | with_reducible refine Kp.drew ?_ | with_reducible refine Kp.back hk4 ?_ | with_reducible refine Kp.back hk3 ?_ | with_reducible refine Kp.back hk2 ?_ | with_reducible refine Kp.back hk1 ?_))); simp only at b; obtain ⟨b0, b1, b2, b3, b4, bs⟩ := b) | (go_at_call 33; (with_reducible refine (c_isExpression ⟨43, tx, n, at_, la, ll, lc⟩ _).mono ?_); rintro e w' ⟨rfl, hk3⟩; rw [show exK (43 : Int) = false from rfl]; have b := boxed (w := w) (h := ⟨43, tx, n, at_, la, ll, lc⟩) (show Kp _ w' by (repeat (first | with_reducible exact Kp.refl _ | with_reducible refine Kp.alloc ?_ _ | with_reducible refine Kp.drew ?_ | with_reducible refine Kp.back hk4 ?_ | with_reducible refine Kp.back hk3 ?_ | with_reducible refine Kp.back hk2 ?_ | with_reducible refine Kp.back hk1 ?_))); simp only at b; obtain ⟨b0, b1, b2, b3, b4, bs⟩ := b) | (go_at_call 53; (with_reducible refine (form_43 ks tx n at_ la ll lc K _ (HL.out.keep (by (repeat (first | with_reducible exact Kp.refl _ | with_reducible refine Kp.alloc ?_ _ | with_reducible refine Kp.drew ?_ | with_reducible refine Kp.back hk4 ?_ | with_reducible refine Kp.back hk3 ?_ | with_reducible refine Kp.back hk2 ?_ | with_reducible refine Kp.back hk1 ?_)))) hcap hs).mono ?_); rintro e w' ⟨rfl, hk4⟩))
  go_ret
  refine ⟨rfl, ?_⟩
  (repeat (first | with_reducible exact Kp.refl _ | with_reducible refine Kp.alloc ?_ _ | with_reducible refine Kp.drew ?_ | with_reducible refine Kp.back hk4 ?_ | with_reducible refine Kp.back hk3 ?_ | with_reducible refine Kp.back hk2 ?_ | with_reducible refine Kp.back hk1 ?_))
set_option maxHeartbeats 3200000 in
set_option maxRecDepth 100000 in
theorem iF_44 (ks : List Int) (tx : ByteArray) (n at_ : Int) (la : Option Addr) (ll lc : Nat) (K : Nat → Hn) (w : World) (hL : ListAt w ks la ll lc K) (hcap : ll ≤ lc) (hs : tx.size ≤ 140737488351232) (hn : 0 ≤ n ∧ n ≤ 18446744073709551615) :
    Calls Try.prog 40 #[.agg #[.int .i64 44, .string tx, .int .u64 n, .int .i64 at_, .slice la ll lc]] w fun e w' => e = .returned (.bool (formB 44 tx n ks)) ∧ Kp w w' := by
  have hlen := hL.len
  rw [show formB 44 tx n ks = (bareB tx n && areB ks [exK, exK, (inK [20])]) from by rfl]
  have HL := Lib.hid hL
  clear hL hlen
  go_enter Try.func40, Try.ntmps40
  go_wp2_with (first | (go_at_call 34; (with_reducible refine (c_isType ⟨44, tx, n, at_, la, ll, lc⟩ _).mono ?_); rintro e w' ⟨rfl, hk1⟩; rw [show tyK (44 : Int) = false from rfl]; have b := boxed (w := w) (h := ⟨44, tx, n, at_, la, ll, lc⟩) (show Kp _ w' by (repeat (first | with_reducible exact Kp.refl _ | with_reducible refine Kp.alloc ?_ _ | with_reducible refine Kp.drew ?_ | with_reducible refine Kp.back hk4 ?_ | with_reducible refine Kp.back hk3 ?_ | with_reducible refine Kp.back hk2 ?_ | with_reducible refine Kp.back hk1 ?_))); simp only at b; obtain ⟨b0, b1, b2, b3, b4, bs⟩ := b) | (go_at_call 32; (with_reducible refine (c_isStatement ⟨44, tx, n, at_, la, ll, lc⟩ _).mono ?_); rintro e w' ⟨rfl, hk2⟩; rw [show stK (44 : Int) = false from rfl]; have b := boxed (w := w) (h := ⟨44, tx, n, at_, la, ll, lc⟩) (show Kp _ w' by (repeat (first | with_reducible exact Kp.refl _ | with_reducible refine Kp.alloc ?_ _ | with_reducible refine Kp.drew ?_ | with_reducible refine Kp.back hk4 ?_ | with_reducible refine Kp.back hk3 ?_ | with_reducible refine Kp.back hk2 ?_ | with_reducible refine Kp.back hk1 ?_))); simp only at b; obtain ⟨b0, b1, b2, b3, b4, bs⟩ := b) | (go_at_call 33; (with_reducible refine (c_isExpression ⟨44, tx, n, at_, la, ll, lc⟩ _).mono ?_); rintro e w' ⟨rfl, hk3⟩; rw [show exK (44 : Int) = false from rfl]; have b := boxed (w := w) (h := ⟨44, tx, n, at_, la, ll, lc⟩) (show Kp _ w' by (repeat (first | with_reducible exact Kp.refl _ | with_reducible refine Kp.alloc ?_ _ | with_reducible refine Kp.drew ?_ | with_reducible refine Kp.back hk4 ?_ | with_reducible refine Kp.back hk3 ?_ | with_reducible refine Kp.back hk2 ?_ | with_reducible refine Kp.back hk1 ?_))); simp only at b; obtain ⟨b0, b1, b2, b3, b4, bs⟩ := b) | (go_at_call 53; (with_reducible refine (form_44 ks tx n at_ la ll lc K _ (HL.out.keep (by (repeat (first | with_reducible exact Kp.refl _ | with_reducible refine Kp.alloc ?_ _ | with_reducible refine Kp.drew ?_ | with_reducible refine Kp.back hk4 ?_ | with_reducible refine Kp.back hk3 ?_ | with_reducible refine Kp.back hk2 ?_ | with_reducible refine Kp.back hk1 ?_)))) hcap hs).mono ?_); rintro e w' ⟨rfl, hk4⟩))
  go_ret
  refine ⟨rfl, ?_⟩
  (repeat (first | with_reducible exact Kp.refl _ | with_reducible refine Kp.alloc ?_ _ | with_reducible refine Kp.drew ?_ | with_reducible refine Kp.back hk4 ?_ | with_reducible refine Kp.back hk3 ?_ | with_reducible refine Kp.back hk2 ?_ | with_reducible refine Kp.back hk1 ?_))
set_option maxHeartbeats 3200000 in
set_option maxRecDepth 100000 in
theorem iF_45 (ks : List Int) (tx : ByteArray) (n at_ : Int) (la : Option Addr) (ll lc : Nat) (K : Nat → Hn) (w : World) (hL : ListAt w ks la ll lc K) (hcap : ll ≤ lc) (hs : tx.size ≤ 140737488351232) (hn : 0 ≤ n ∧ n ≤ 18446744073709551615) :
    Calls Try.prog 40 #[.agg #[.int .i64 45, .string tx, .int .u64 n, .int .i64 at_, .slice la ll lc]] w fun e w' => e = .returned (.bool (formB 45 tx n ks)) ∧ Kp w w' := by
  have hlen := hL.len
  rw [show formB 45 tx n ks = (bareB tx n && areB ks [(inK [20])]) from by rfl]
  have HL := Lib.hid hL
  clear hL hlen
  go_enter Try.func40, Try.ntmps40
  go_wp2_with (first | (go_at_call 34; (with_reducible refine (c_isType ⟨45, tx, n, at_, la, ll, lc⟩ _).mono ?_); rintro e w' ⟨rfl, hk1⟩; rw [show tyK (45 : Int) = false from rfl]; have b := boxed (w := w) (h := ⟨45, tx, n, at_, la, ll, lc⟩) (show Kp _ w' by (repeat (first | with_reducible exact Kp.refl _ | with_reducible refine Kp.alloc ?_ _ | with_reducible refine Kp.drew ?_ | with_reducible refine Kp.back hk4 ?_ | with_reducible refine Kp.back hk3 ?_ | with_reducible refine Kp.back hk2 ?_ | with_reducible refine Kp.back hk1 ?_))); simp only at b; obtain ⟨b0, b1, b2, b3, b4, bs⟩ := b) | (go_at_call 32; (with_reducible refine (c_isStatement ⟨45, tx, n, at_, la, ll, lc⟩ _).mono ?_); rintro e w' ⟨rfl, hk2⟩; rw [show stK (45 : Int) = false from rfl]; have b := boxed (w := w) (h := ⟨45, tx, n, at_, la, ll, lc⟩) (show Kp _ w' by (repeat (first | with_reducible exact Kp.refl _ | with_reducible refine Kp.alloc ?_ _ | with_reducible refine Kp.drew ?_ | with_reducible refine Kp.back hk4 ?_ | with_reducible refine Kp.back hk3 ?_ | with_reducible refine Kp.back hk2 ?_ | with_reducible refine Kp.back hk1 ?_))); simp only at b; obtain ⟨b0, b1, b2, b3, b4, bs⟩ := b) | (go_at_call 33; (with_reducible refine (c_isExpression ⟨45, tx, n, at_, la, ll, lc⟩ _).mono ?_); rintro e w' ⟨rfl, hk3⟩; rw [show exK (45 : Int) = false from rfl]; have b := boxed (w := w) (h := ⟨45, tx, n, at_, la, ll, lc⟩) (show Kp _ w' by (repeat (first | with_reducible exact Kp.refl _ | with_reducible refine Kp.alloc ?_ _ | with_reducible refine Kp.drew ?_ | with_reducible refine Kp.back hk4 ?_ | with_reducible refine Kp.back hk3 ?_ | with_reducible refine Kp.back hk2 ?_ | with_reducible refine Kp.back hk1 ?_))); simp only at b; obtain ⟨b0, b1, b2, b3, b4, bs⟩ := b) | (go_at_call 53; (with_reducible refine (form_45 ks tx n at_ la ll lc K _ (HL.out.keep (by (repeat (first | with_reducible exact Kp.refl _ | with_reducible refine Kp.alloc ?_ _ | with_reducible refine Kp.drew ?_ | with_reducible refine Kp.back hk4 ?_ | with_reducible refine Kp.back hk3 ?_ | with_reducible refine Kp.back hk2 ?_ | with_reducible refine Kp.back hk1 ?_)))) hcap hs).mono ?_); rintro e w' ⟨rfl, hk4⟩))
  go_ret
  refine ⟨rfl, ?_⟩
  (repeat (first | with_reducible exact Kp.refl _ | with_reducible refine Kp.alloc ?_ _ | with_reducible refine Kp.drew ?_ | with_reducible refine Kp.back hk4 ?_ | with_reducible refine Kp.back hk3 ?_ | with_reducible refine Kp.back hk2 ?_ | with_reducible refine Kp.back hk1 ?_))
set_option maxHeartbeats 3200000 in
set_option maxRecDepth 100000 in
theorem part_other (tx : ByteArray) (k n at_ : Int) (la : Option Addr) (ll lc : Nat) (w : World) (h1 : k ≠ 1) (h2 : k ≠ 2) (h3 : k ≠ 3) (h4 : k ≠ 4) (h5 : k ≠ 5) (h6 : k ≠ 6) (h7 : k ≠ 7) (h8 : k ≠ 8) (h43 : k ≠ 43) (h44 : k ≠ 44) (h45 : k ≠ 45) :
    Calls Try.prog 53 #[.agg #[.int .i64 k, .string tx, .int .u64 n, .int .i64 at_, .slice la ll lc]] w fun e w' => e = .returned (.bool false) ∧ Kp w w' := by
  have e1 : (k == 1) = false := beq_eq_false_iff_ne.2 h1
  have e2 : (k == 2) = false := beq_eq_false_iff_ne.2 h2
  have e3 : (k == 3) = false := beq_eq_false_iff_ne.2 h3
  have e4 : (k == 4) = false := beq_eq_false_iff_ne.2 h4
  have e5 : (k == 5) = false := beq_eq_false_iff_ne.2 h5
  have e6 : (k == 6) = false := beq_eq_false_iff_ne.2 h6
  have e7 : (k == 7) = false := beq_eq_false_iff_ne.2 h7
  have e8 : (k == 8) = false := beq_eq_false_iff_ne.2 h8
  have e43 : (k == 43) = false := beq_eq_false_iff_ne.2 h43
  have e44 : (k == 44) = false := beq_eq_false_iff_ne.2 h44
  have e45 : (k == 45) = false := beq_eq_false_iff_ne.2 h45
  clear h1 h2 h3 h4 h5 h6 h7 h8 h43 h44 h45
  go_enter Try.func53, Try.ntmps53
  go_wp2_with fail
  go_ret
  exact ⟨rfl, (Kp.refl w).alloc _⟩
theorem formB_other {k : Int} (tx : ByteArray) (n : Int) (ks : List Int) (h : ∀ i ∈ [1, 2, 3, 4, 5, 6, 7, 8, 10, 11, 12, 13, 20, 21, 22, 23, 24, 25, 26, 27, 28, 29, 30, 31, 32, 33, 34, 35, 36, 37, 38, 39, 40, 41, 42, 43, 44, 45], k ≠ i) : formB k tx n ks = false := by
  unfold formB
  repeat rw [if_neg (h _ (by simp))]
set_option maxHeartbeats 3200000 in
set_option maxRecDepth 100000 in
theorem iF_other (ks : List Int) (tx : ByteArray) (k n at_ : Int) (la : Option Addr) (ll lc : Nat) (w : World) (h : ∀ i ∈ [1, 2, 3, 4, 5, 6, 7, 8, 10, 11, 12, 13, 20, 21, 22, 23, 24, 25, 26, 27, 28, 29, 30, 31, 32, 33, 34, 35, 36, 37, 38, 39, 40, 41, 42, 43, 44, 45], k ≠ i) :
    Calls Try.prog 40 #[.agg #[.int .i64 k, .string tx, .int .u64 n, .int .i64 at_, .slice la ll lc]] w fun e w' => e = .returned (.bool (formB k tx n ks)) ∧ Kp w w' := by
  rw [formB_other tx n ks h]
  have HP := Lib.hid (fun w' => part_other tx k n at_ la ll lc w' (h 1 (by simp)) (h 2 (by simp)) (h 3 (by simp)) (h 4 (by simp)) (h 5 (by simp)) (h 6 (by simp)) (h 7 (by simp)) (h 8 (by simp)) (h 43 (by simp)) (h 44 (by simp)) (h 45 (by simp)))
  have hr : k ≠ 10 ∧ k ≠ 11 ∧ k ≠ 12 ∧ k ≠ 13 ∧ k ≠ 20 ∧ k ≠ 21 ∧ k ≠ 22 ∧ k ≠ 23 ∧ k ≠ 24 ∧ k ≠ 25 ∧ k ≠ 26 ∧ k ≠ 27 ∧ k ≠ 28 ∧ k ≠ 29 ∧ k ≠ 30 ∧ k ≠ 31 ∧ k ≠ 32 ∧ k ≠ 33 ∧ k ≠ 34 ∧ k ≠ 35 ∧ k ≠ 36 ∧ k ≠ 37 ∧ k ≠ 38 ∧ k ≠ 39 ∧ k ≠ 40 ∧ k ≠ 41 ∧ k ≠ 42 := by
    refine ⟨?_, ?_, ?_, ?_, ?_, ?_, ?_, ?_, ?_, ?_, ?_, ?_, ?_, ?_, ?_, ?_, ?_, ?_, ?_, ?_, ?_, ?_, ?_, ?_, ?_, ?_, ?_⟩ <;> exact h _ (by simp)
  have HtyK := Lib.hid (show tyK k = false from decide_eq_false (by omega))
  have HstK := Lib.hid (show stK k = false from decide_eq_false (by omega))
  have HexK := Lib.hid (show exK k = false from decide_eq_false (by omega))
  clear h hr
  go_enter Try.func40, Try.ntmps40
  go_wp2_with (first | (go_at_call 34; (with_reducible refine (c_isType ⟨k, tx, n, at_, la, ll, lc⟩ _).mono ?_); rintro e w' ⟨rfl, hk1⟩; rw [HtyK.out]; have b := boxed (w := w) (h := ⟨k, tx, n, at_, la, ll, lc⟩) (show Kp _ w' by (repeat (first | with_reducible exact Kp.refl _ | with_reducible refine Kp.alloc ?_ _ | with_reducible refine Kp.drew ?_ | with_reducible refine Kp.back hk4 ?_ | with_reducible refine Kp.back hk3 ?_ | with_reducible refine Kp.back hk2 ?_ | with_reducible refine Kp.back hk1 ?_))); simp only at b; obtain ⟨b0, b1, b2, b3, b4, bs⟩ := b) | (go_at_call 32; (with_reducible refine (c_isStatement ⟨k, tx, n, at_, la, ll, lc⟩ _).mono ?_); rintro e w' ⟨rfl, hk2⟩; rw [HstK.out]; have b := boxed (w := w) (h := ⟨k, tx, n, at_, la, ll, lc⟩) (show Kp _ w' by (repeat (first | with_reducible exact Kp.refl _ | with_reducible refine Kp.alloc ?_ _ | with_reducible refine Kp.drew ?_ | with_reducible refine Kp.back hk4 ?_ | with_reducible refine Kp.back hk3 ?_ | with_reducible refine Kp.back hk2 ?_ | with_reducible refine Kp.back hk1 ?_))); simp only at b; obtain ⟨b0, b1, b2, b3, b4, bs⟩ := b) | (go_at_call 33; (with_reducible refine (c_isExpression ⟨k, tx, n, at_, la, ll, lc⟩ _).mono ?_); rintro e w' ⟨rfl, hk3⟩; rw [HexK.out]; have b := boxed (w := w) (h := ⟨k, tx, n, at_, la, ll, lc⟩) (show Kp _ w' by (repeat (first | with_reducible exact Kp.refl _ | with_reducible refine Kp.alloc ?_ _ | with_reducible refine Kp.drew ?_ | with_reducible refine Kp.back hk4 ?_ | with_reducible refine Kp.back hk3 ?_ | with_reducible refine Kp.back hk2 ?_ | with_reducible refine Kp.back hk1 ?_))); simp only at b; obtain ⟨b0, b1, b2, b3, b4, bs⟩ := b) | (go_at_call 53; (with_reducible refine (HP.out _).mono ?_); rintro e w' ⟨rfl, hk4⟩))
  go_ret
  refine ⟨rfl, ?_⟩
  (repeat (first | with_reducible exact Kp.refl _ | with_reducible refine Kp.alloc ?_ _ | with_reducible refine Kp.drew ?_ | with_reducible refine Kp.back hk4 ?_ | with_reducible refine Kp.back hk3 ?_ | with_reducible refine Kp.back hk2 ?_ | with_reducible refine Kp.back hk1 ?_))
/-- The Kinds of the nodes in a node. -/
def ksN (X : Nd) : List Int := X.kids.map Nd.k
noncomputable def formN (X : Nd) : Bool := formB X.k X.tx X.n (ksN X)
theorem list_of {w : World} {r : Nat} {X : Nd} {h : Hn} {K : Nat → Hn} (t : Top w A0 X h K) (hh : ∀ i Y, X.kids[i]? = some Y → Lies w A0 r Y (K i)) : ListAt w (ksN X) h.la h.ll h.lc K := by
  refine ⟨t.tl, by rw [ksN, List.length_map, t.es], fun i hi => ?_, by have := t.bl; omega⟩
  have hi' : i < X.kids.length := by rw [← t.es]; exact hi
  have hg : X.kids[i]? = some X.kids[i] := List.getElem?_eq_getElem hi'
  rw [ksN, List.getElem?_map, hg]
  have hl := hh i _ hg
  cases r with
  | zero => exact hl.elim
  | succ r =>
    obtain ⟨K', t', _⟩ := hl
    exact congrArg some t'.ek
theorem c_isFormed_but (r : Nat) (X : Nd) (h : Hn) (w : World) (hl : Lies w A0 r X h) (h3 : h.k ≠ 3) : Calls Try.prog 40 #[h.val] w fun e w' => e = .returned (.bool (formN X)) ∧ Kp w w' := by
  cases r with
  | zero => exact hl.elim
  | succ r =>
    obtain ⟨K, t, hh⟩ := hl
    have hL := list_of t hh
    have hcap := t.cp
    have hs := t.rt
    have hn := t.rn
    unfold formN
    rw [t.ek, t.et, t.en]
    clear t hh
    generalize ksN X = ks at hL
    obtain ⟨k, tx, n, at_, la, ll, lc⟩ := h
    simp only at h3 hL hcap hs hn ⊢
    by_cases ho : ∀ i ∈ [1, 2, 3, 4, 5, 6, 7, 8, 10, 11, 12, 13, 20, 21, 22, 23, 24, 25, 26, 27, 28, 29, 30, 31, 32, 33, 34, 35, 36, 37, 38, 39, 40, 41, 42, 43, 44, 45], k ≠ i
    · exact iF_other ks tx k n at_ la ll lc w ho
    · have hm : k ∈ [1, 2, 3, 4, 5, 6, 7, 8, 10, 11, 12, 13, 20, 21, 22, 23, 24, 25, 26, 27, 28, 29, 30, 31, 32, 33, 34, 35, 36, 37, 38, 39, 40, 41, 42, 43, 44, 45] := by
        apply Classical.byContradiction
        intro hc
        exact ho (fun i hi e => hc (e ▸ hi))
      simp only [List.mem_cons, List.not_mem_nil, or_false] at hm
      rcases hm with rfl | rfl | rfl | rfl | rfl | rfl | rfl | rfl | rfl | rfl | rfl | rfl | rfl | rfl | rfl | rfl | rfl | rfl | rfl | rfl | rfl | rfl | rfl | rfl | rfl | rfl | rfl | rfl | rfl | rfl | rfl | rfl | rfl | rfl | rfl | rfl | rfl | rfl
      · exact iF_1 ks tx n at_ la ll lc K w hL hcap hs hn
      · exact iF_2 ks tx n at_ la ll lc K w hL hcap hs hn
      · exact absurd rfl h3
      · exact iF_4 ks tx n at_ la ll lc K w hL hcap hs hn
      · exact iF_5 ks tx n at_ la ll lc K w hL hcap hs hn
      · exact iF_6 ks tx n at_ la ll lc K w hL hcap hs hn
      · exact iF_7 ks tx n at_ la ll lc K w hL hcap hs hn
      · exact iF_8 ks tx n at_ la ll lc K w hL hcap hs hn
      · exact iF_10 ks tx n at_ la ll lc K w hL hcap hs hn
      · exact iF_11 ks tx n at_ la ll lc K w hL hcap hs hn
      · exact iF_12 ks tx n at_ la ll lc K w hL hcap hs hn
      · exact iF_13 ks tx n at_ la ll lc K w hL hcap hs hn
      · exact iF_20 ks tx n at_ la ll lc K w hL hcap hs hn
      · exact iF_21 ks tx n at_ la ll lc K w hL hcap hs hn
      · exact iF_22 ks tx n at_ la ll lc K w hL hcap hs hn
      · exact iF_23 ks tx n at_ la ll lc K w hL hcap hs hn
      · exact iF_24 ks tx n at_ la ll lc K w hL hcap hs hn
      · exact iF_25 ks tx n at_ la ll lc K w hL hcap hs hn
      · exact iF_26 ks tx n at_ la ll lc K w hL hcap hs hn
      · exact iF_27 ks tx n at_ la ll lc K w hL hcap hs hn
      · exact iF_28 ks tx n at_ la ll lc K w hL hcap hs hn
      · exact iF_29 ks tx n at_ la ll lc K w hL hcap hs hn
      · exact iF_30 ks tx n at_ la ll lc K w hL hcap hs hn
      · exact iF_31 ks tx n at_ la ll lc K w hL hcap hs hn
      · exact iF_32 ks tx n at_ la ll lc K w hL hcap hs hn
      · exact iF_33 ks tx n at_ la ll lc K w hL hcap hs hn
      · exact iF_34 ks tx n at_ la ll lc K w hL hcap hs hn
      · exact iF_35 ks tx n at_ la ll lc K w hL hcap hs hn
      · exact iF_36 ks tx n at_ la ll lc K w hL hcap hs hn
      · exact iF_37 ks tx n at_ la ll lc K w hL hcap hs hn
      · exact iF_38 ks tx n at_ la ll lc K w hL hcap hs hn
      · exact iF_39 ks tx n at_ la ll lc K w hL hcap hs hn
      · exact iF_40 ks tx n at_ la ll lc K w hL hcap hs hn
      · exact iF_41 ks tx n at_ la ll lc K w hL hcap hs hn
      · exact iF_42 ks tx n at_ la ll lc K w hL hcap hs hn
      · exact iF_43 ks tx n at_ la ll lc K w hL hcap hs hn
      · exact iF_44 ks tx n at_ la ll lc K w hL hcap hs hn
      · exact iF_45 ks tx n at_ la ll lc K w hL hcap hs hn
end Go.Proofs.Ytgamenimbkafjaa
