/- A packet, as a plain record, and its cells in memory (no program here). -/
import Derived.Test.YtlhgiboajnhahaaSw
set_option linter.unusedVariables false
namespace Go.Proofs.Ytlhgiboajnhahaa
open Go.RowKit

/-- A packet. -/
structure Pk where
  n : Nat
  size : Nat
  sent : Nat
  first : Nat
  deliv : Nat
  at_ : Nat
  lim : Bool
deriving DecidableEq
instance : Inhabited Pk := ⟨⟨0, 0, 0, 0, 0, 0, false⟩⟩
def Pk.cs (p : Pk) : List Value := [.int .u64 (p.n : Int), .int .u64 (p.size : Int), .int .u64 (p.sent : Int), .int .u64 (p.first : Int), .int .u64 (p.deliv : Int), .int .u64 (p.at_ : Int), .bool p.lim]
instance : Itm Pk := ⟨⟨0, 0, 0, 0, 0, 0, false⟩, 7, Pk.cs, by decide, fun _ => rfl, fun r v h => by
  simp only [Pk.cs, List.mem_cons, List.not_mem_nil, or_false] at h; rcases h with rfl | rfl | rfl | rfl | rfl | rfl | rfl <;> rfl⟩
def Pk.agg (r : Pk) : Value := .agg #[.int .u64 (r.n : Int), .int .u64 (r.size : Int), .int .u64 (r.sent : Int), .int .u64 (r.first : Int), .int .u64 (r.deliv : Int), .int .u64 (r.at_ : Int), .bool r.lim]
end Go.Proofs.Ytlhgiboajnhahaa
