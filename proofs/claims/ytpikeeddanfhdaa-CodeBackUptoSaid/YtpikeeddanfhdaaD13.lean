/- A module's bytes are read as it, and of no other; what is read is written so. Plain: no program is walked here. -/
import Derived.Test.YtpikeeddanfhdaaD12
import Derived.Test.YtpikeeddanfhdaaD11
namespace Go.Proofs.Ytpikeeddanfhdaa
set_option linter.unusedVariables false
set_option linter.unusedSimpArgs false
theorem io_one {least : Int} (hl : least = 0 ∨ least = -1) : Io (pSmall least) fun x s => True ∧ Ser [.sm x least] s := (io_small hl).congr fun x s => ⟨fun h => ⟨trivial, h⟩, fun h => h.2⟩
theorem io_ints : Io pInts fun y u => Ser (itInts y) u := (io_list (io_one (.inl rfl))).congr fun y u => by
  have : y.flatMap (fun x => [It.sm x 0]) = y.map intI := by
    induction y with
    | nil => rfl
    | cons x y ih => rw [List.flatMap_cons, ih]; rfl
  rw [this]
  exact ⟨fun h => h.2, fun h => ⟨fun _ _ => trivial, h⟩⟩
theorem io_nu {most : Nat} (hm : most < 18446744073709551616) : Io (pUpto most) fun n s => n ≤ most ∧ Ser [.nu n] s := (io_upto hm).congr fun n s => by
  rw [ser_one]
  exact ⟨fun ⟨h1, h2⟩ => ⟨h1, (show n < 18446744073709551616 by omega), h2⟩, fun ⟨h1, _, h2⟩ => ⟨h1, h2⟩⟩
theorem io_case : Io pCase fun x s => True ∧ Ser (itCase x) s := (Io.then (io_nu (by omega)) fun n => Io.then (io_small (.inl rfl)) fun c => Io.then (io_small (.inr rfl)) fun v => Io.then (io_small (.inl rfl)) fun t => Io.pure (⟨n == 1, c, v, t⟩ : Cs)).congr fun x s => by
  constructor
  · rintro ⟨n, s1, _, ⟨hn, h1⟩, ⟨c, s2, _, h2, ⟨v, s3, _, h3, ⟨t, s4, _, h4, ⟨rfl, rfl⟩, rfl⟩, rfl⟩, rfl⟩, rfl⟩
    refine ⟨trivial, (ser_cons _ _ _).2 ⟨s1, _, ?_, (ser_cons _ _ _).2 ⟨s2, _, h2, (ser_cons _ _ _).2 ⟨s3, _, h3, (ser_cons _ _ _).2 ⟨s4, [], h4, (ser_nil _).2 rfl, rfl⟩, rfl⟩, rfl⟩, rfl⟩⟩
    have : n = 0 ∨ n = 1 := by omega
    rcases this with rfl | rfl <;> exact h1
  · rintro ⟨_, h⟩
    obtain ⟨s1, _, h1, g1, rfl⟩ := (ser_cons _ _ _).1 h
    obtain ⟨s2, _, h2, g2, rfl⟩ := (ser_cons _ _ _).1 g1
    obtain ⟨s3, _, h3, g3, rfl⟩ := (ser_cons _ _ _).1 g2
    obtain ⟨s4, _, h4, g4, rfl⟩ := (ser_cons _ _ _).1 g3
    have := (ser_nil _).1 g4
    subst this
    obtain ⟨b, c, v, t⟩ := x
    exact ⟨if b = true then 1 else 0, s1, _, ⟨by split <;> omega, h1⟩, ⟨c, s2, _, h2, ⟨v, s3, _, h3, ⟨t, s4, _, h4, ⟨by cases b <;> rfl, rfl⟩, rfl⟩, rfl⟩, rfl⟩, rfl⟩
def okI (x : Ins) : Prop := 0 ≤ x.n ∧ x.n ≤ 18446744073709551615
def okF (f : Fu) : Prop := ∀ i ∈ f.co, okI i
def okM (m : Mo) : Prop := ∀ f ∈ m.fu, okF f
theorem io_ins : Io pIns fun x s => okI x ∧ Ser (itIns x) s := (Io.then (io_small (.inl rfl)) fun o => Io.then (io_small (.inr rfl)) fun a => Io.then (io_small (.inr rfl)) fun b => Io.then (io_nu (by omega)) fun n => Io.then (io_list io_case) fun cs => Io.pure (⟨o, a, b, n, cs⟩ : Ins)).congr fun x s => by
  constructor
  · rintro ⟨o, s1, _, h1, ⟨a, s2, _, h2, ⟨b, s3, _, h3, ⟨n, s4, _, ⟨hn, h4⟩, ⟨cs, s5, _, ⟨_, h5⟩, ⟨rfl, rfl⟩, rfl⟩, rfl⟩, rfl⟩, rfl⟩, rfl⟩
    refine ⟨⟨Int.natCast_nonneg n, by show (n : Int) ≤ _; omega⟩, (ser_cons _ _ _).2 ⟨s1, _, h1, (ser_cons _ _ _).2 ⟨s2, _, h2, (ser_cons _ _ _).2 ⟨s3, _, h3, (ser_cons _ _ _).2 ⟨s4, _, ?_, ?_, rfl⟩, rfl⟩, rfl⟩, rfl⟩⟩
    · rw [Int.toNat_natCast]; exact h4
    · rw [List.append_nil]; exact h5
  · rintro ⟨⟨hn1, hn2⟩, h⟩
    obtain ⟨s1, _, h1, g1, rfl⟩ := (ser_cons _ _ _).1 h
    obtain ⟨s2, _, h2, g2, rfl⟩ := (ser_cons _ _ _).1 g1
    obtain ⟨s3, _, h3, g3, rfl⟩ := (ser_cons _ _ _).1 g2
    obtain ⟨s4, s5, h4, h5, rfl⟩ := (ser_cons _ _ _).1 g3
    obtain ⟨o, a, b, n, cs⟩ := x
    dsimp only at hn1 hn2 h1 h2 h3 h4 h5
    exact ⟨o, s1, _, h1, ⟨a, s2, _, h2, ⟨b, s3, _, h3, ⟨n.toNat, s4, _, ⟨by omega, h4⟩, ⟨cs, s5, _, ⟨fun _ _ => trivial, h5⟩, ⟨by rw [Int.toNat_of_nonneg hn1], rfl⟩, rfl⟩, by rw [List.append_nil]⟩, rfl⟩, rfl⟩, rfl⟩
theorem io_sh : Io pSh fun x s => True ∧ Ser (itSh x) s := (Io.then (io_small (.inl rfl)) fun k => Io.then io_ints fun l => Io.then (io_small (.inl rfl)) fun r => Io.pure (⟨k, l, r⟩ : Sh)).congr fun x s => by
  constructor
  · rintro ⟨k, s1, _, h1, ⟨l, s2, _, h2, ⟨r, s3, _, h3, ⟨rfl, rfl⟩, rfl⟩, rfl⟩, rfl⟩
    refine ⟨trivial, (ser_cons _ _ _).2 ⟨s1, _, h1, (ser_app _ _ _).2 ⟨s2, _, h2, ?_, rfl⟩, rfl⟩⟩
    rw [List.append_nil]; exact h3
  · rintro ⟨_, h⟩
    obtain ⟨s1, _, h1, g1, rfl⟩ := (ser_cons _ _ _).1 h
    obtain ⟨s2, s3, h2, h3, rfl⟩ := (ser_app _ _ _).1 g1
    obtain ⟨k, l, r⟩ := x
    exact ⟨k, s1, _, h1, ⟨l, s2, _, h2, ⟨r, s3, _, h3, ⟨rfl, rfl⟩, rfl⟩, by rw [List.append_nil]⟩, rfl⟩
theorem io_fu : Io pFu fun x s => okF x ∧ Ser (itFu x) s := (Io.then (io_small (.inl rfl)) fun p => Io.then io_ints fun lo => Io.then io_ints fun ca => Io.then (io_small (.inl rfl)) fun r => Io.then (io_list io_ins) fun co => Io.pure (⟨p, lo, ca, r, co⟩ : Fu)).congr fun x s => by
  constructor
  · rintro ⟨p, s1, _, h1, ⟨lo, s2, _, h2, ⟨ca, s3, _, h3, ⟨r, s4, _, h4, ⟨co, s5, _, ⟨hc, h5⟩, ⟨rfl, rfl⟩, rfl⟩, rfl⟩, rfl⟩, rfl⟩, rfl⟩
    refine ⟨hc, (ser_cons _ _ _).2 ⟨s1, _, h1, (ser_app _ _ _).2 ⟨s2, _, h2, (ser_app _ _ _).2 ⟨s3, _, h3, (ser_cons _ _ _).2 ⟨s4, _, h4, ?_, rfl⟩, rfl⟩, rfl⟩, rfl⟩⟩
    rw [List.append_nil]; exact h5
  · rintro ⟨hc, h⟩
    obtain ⟨s1, _, h1, g1, rfl⟩ := (ser_cons _ _ _).1 h
    obtain ⟨s2, _, h2, g2, rfl⟩ := (ser_app _ _ _).1 g1
    obtain ⟨s3, _, h3, g3, rfl⟩ := (ser_app _ _ _).1 g2
    obtain ⟨s4, s5, h4, h5, rfl⟩ := (ser_cons _ _ _).1 g3
    obtain ⟨p, lo, ca, r, co⟩ := x
    exact ⟨p, s1, _, h1, ⟨lo, s2, _, h2, ⟨ca, s3, _, h3, ⟨r, s4, _, h4, ⟨co, s5, _, ⟨hc, h5⟩, ⟨rfl, rfl⟩, rfl⟩, by rw [List.append_nil]⟩, rfl⟩, rfl⟩, rfl⟩
theorem io_mo : Io pMo fun x s => okM x ∧ Ser (itMo x) s := (Io.then (io_list io_sh) fun ty => Io.then (io_list io_fu) fun fu => Io.pure (⟨ty, fu⟩ : Mo)).congr fun x s => by
  constructor
  · rintro ⟨ty, s1, _, ⟨_, h1⟩, ⟨fu, s2, _, ⟨hc, h2⟩, ⟨rfl, rfl⟩, rfl⟩, rfl⟩
    refine ⟨hc, (ser_app (lenI ty.length :: ty.flatMap itSh) (lenI fu.length :: fu.flatMap itFu) _).2 ⟨s1, _, h1, ?_, rfl⟩⟩
    rw [List.append_nil]; exact h2
  · rintro ⟨hc, h⟩
    obtain ⟨ty, fu⟩ := x
    obtain ⟨s1, s2, h1, h2, rfl⟩ := (ser_app (lenI ty.length :: ty.flatMap itSh) (lenI fu.length :: fu.flatMap itFu) _).1 h
    exact ⟨ty, s1, _, ⟨fun _ _ => trivial, h1⟩, ⟨fu, s2, _, ⟨hc, h2⟩, ⟨rfl, rfl⟩, rfl⟩, by rw [List.append_nil]⟩
end Go.Proofs.Ytpikeeddanfhdaa
