/- The program's answer and the document's, side by side (layer 15); what parses. Conditions: those that each states. -/
import Derived.Test.YtpnfmohejcdgfaaIpB
import Derived.Test.YtpnfmohejcdgfaaIpO
import Derived.Test.YtpnfmohejcdgfaaIpD
namespace Go.Proofs.Ytpnfmohejcdgfaa.Ip
open Go.ChangeShapes Go.WideShapes Go.ChangeAt Go.RowKit Go.Deep Rk Fl Gx Di
set_option linter.unusedVariables false
set_option linter.unusedSimpArgs false

theorem pk_form (l : List UInt8) : ∃ (i t p s d : Nat) (b : List UInt8), (∀ w w' e, Parsed w w' e l → ∃ A c, e = .returned (.tuple #[.agg (pkV i t p s d A b.length c), .int .i64 (parErr l)]) ∧ Src w' A b.length c b) ∧ (∀ e, DParsed e l → e = .returned (.tuple #[.agg (dpV i t p s d b), .int .i64 (parErr l)])) := by
  by_cases h : parErr l = 0
  · refine ⟨at2 l 4 2, at2 l 8 1, at2 l 9 1, at2 l 12 4, at2 l 16 4, (l.drop (hlen l)).take (at2 l 2 2 - hlen l), fun w w' e he => ?_, fun e he => ?_⟩
    rotate_left
    · rcases he with ⟨h', _⟩ | ⟨_, rfl⟩
      · exact absurd h h'
      · rw [h]
    · rcases he with ⟨h', _⟩ | ⟨_, A, c, rfl, s⟩
      · exact absurd h h'
      · obtain ⟨_, h2, h3, _, _⟩ := parErr_zero h
        have hl : ((l.drop (hlen l)).take (at2 l 2 2 - hlen l)).length = at2 l 2 2 - hlen l := by rw [List.length_take, List.length_drop]; omega
        rw [h, hl]
        exact ⟨A, c, rfl, s⟩
  · refine ⟨0, 0, 0, 0, 0, [], fun w w' e he => ?_, fun e he => ?_⟩
    · rcases he with ⟨_, rfl⟩ | ⟨h', _⟩
      · exact ⟨none, 0, rfl, Src.nil _⟩
      · exact absurd h' h
    · rcases he with ⟨_, rfl⟩ | ⟨h', _⟩
      · rfl
      · exact absurd h' h
end Go.Proofs.Ytpnfmohejcdgfaa.Ip
