/- A parcel: a packet, and when it is due; its cells in memory (no program here). -/
import Derived.Test.YtlhgiboajnhahaaPk
set_option linter.unusedVariables false
namespace Go.Proofs.Ytlhgiboajnhahaa
open Go.RowKit

/-- A parcel. -/
structure Jp where
  p : Pk
  due : Nat
deriving DecidableEq
instance : Inhabited Jp := ⟨⟨Itm.z, 0⟩⟩
def Jp.cs (r : Jp) : List Value := [.int .u64 (r.p.n : Int), .int .u64 (r.p.size : Int), .int .u64 (r.p.sent : Int), .int .u64 (r.p.first : Int), .int .u64 (r.p.deliv : Int), .int .u64 (r.p.at_ : Int), .bool r.p.lim, .int .u64 (r.due : Int)]
instance : Itm Jp := ⟨⟨⟨0, 0, 0, 0, 0, 0, false⟩, 0⟩, 8, Jp.cs, by decide, fun _ => rfl, fun r v h => by
  simp only [Jp.cs, List.mem_cons, List.not_mem_nil, or_false] at h; rcases h with rfl | rfl | rfl | rfl | rfl | rfl | rfl | rfl <;> rfl⟩
theorem jp_cs (r : Jp) : (Itm.cs r : List Value) = Itm.cs r.p ++ [.int .u64 (r.due : Int)] := rfl
end Go.Proofs.Ytlhgiboajnhahaa
