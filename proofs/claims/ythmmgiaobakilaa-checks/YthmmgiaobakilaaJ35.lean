import Derived.Test.YthmmgiaobakilaaJ21
/- Expressions, statements in memory, what is left of them. -/
set_option maxRecDepth 100000
namespace Go.Proofs.Ythmmgiaobakilaa
open Go.RowKit Go.Deep

/-- What is left of the expressions side by side, from the i-th on. -/
def RepFa (w : World) (Q : Nat → Prop) (rest : Ex) (ao : Option Addr) (i : Nat) : Prop := rest = .nil ∨ ∃ g, ao = some ⟨g, 0, none⟩ ∧ Q g ∧ RepF w Q rest g i
theorem RepK.a {w : World} {Q : Nat → Prop} {sv : Value} {k : Ex} (h : RepK w Q sv k) : ∃ ao c, sv = .slice ao (lenE k) c ∧ RepFa w Q k ao 0 := by
  rcases h with ⟨rfl, ao, c, rfl⟩ | ⟨_, g, c, rfl, hg, hf⟩
  · exact ⟨ao, c, rfl, .inl rfl⟩
  · exact ⟨_, c, rfl, .inr ⟨g, rfl, hg, hf⟩⟩
theorem RepFa.later {w w' : World} {Q : Nat → Prop} (hk : Stay Q w w') {rest : Ex} {ao : Option Addr} {i : Nat} (h : RepFa w Q rest ao i) : RepFa w' Q rest ao i := by
  rcases h with h | ⟨g, e, hg, hf⟩
  · exact .inl h
  · exact .inr ⟨g, e, hg, RepF.later hk (fun j hj _ => hj) rest g i hg hf⟩
theorem lenE_le (e : Ex) : lenE e ≤ szE e := by
  induction e with
  | nil => exact Nat.le_refl _
  | node b o t k r ihk ihr => simp only [lenE, szE]; omega
/-- What is left of the statements side by side, from the i-th on. -/
def RepSa (w : World) (Q : Nat → Prop) (rest : Sx) (ao : Option Addr) (i : Nat) : Prop := rest = .nil ∨ ∃ g, ao = some ⟨g, 0, none⟩ ∧ Q g ∧ RepS w Q rest g i
theorem RepL.a {w : World} {Q : Nat → Prop} {sv : Value} {k : Sx} (h : RepL w Q sv k) : ∃ ao c, sv = .slice ao (lenS k) c ∧ RepSa w Q k ao 0 := by
  rcases h with ⟨rfl, ao, c, rfl⟩ | ⟨_, g, c, rfl, hg, hf⟩
  · exact ⟨ao, c, rfl, .inl rfl⟩
  · exact ⟨_, c, rfl, .inr ⟨g, rfl, hg, hf⟩⟩
theorem lenS_le (e : Sx) : lenS e ≤ szS e := by
  induction e with
  | nil => exact Nat.le_refl _
  | node b o t k r ihk ihr => simp only [lenS, szS]; omega

end Go.Proofs.Ythmmgiaobakilaa
