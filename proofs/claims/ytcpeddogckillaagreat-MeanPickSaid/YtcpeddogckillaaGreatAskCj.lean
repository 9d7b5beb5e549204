/-
  Asks that are made of raw numbers: a beginning of an ask.
-/
import Derived.Test.YtcpeddogckillaaGreatAskCi
namespace Go.Proofs.YtcpeddogckillaaGreat
open Go.RowKit

/-- What an ask made of raw numbers is. -/
def AskOfQ (w : World) (e : Ending) (w' : World) : Prop :=
  ∃ (Ad An Ah : Option Addr) (nc hc : Nat) (ns : List Nd) (ss hs : List Int), e = .returned (.agg #[.slice Ad 14 14, .slice An ns.length nc, .slice Ah hs.length hc]) ∧ DsAt w' Ad dqs ∧ NsAt w' An ns ∧ Is w' Ah hs ∧ ns.length ≤ nc ∧ nc ≤ maxLen ∧ Ok ns ss ∧ ns.length ≤ 120 ∧ hs.length ≤ 200 ∧ (∀ i, i < hs.length → 0 ≤ nth hs i ∧ nth hs i < ss.length ∧ nth ss (nth hs i).toNat = 1) ∧ Below w.heap.size w w'
end Go.Proofs.YtcpeddogckillaaGreat
