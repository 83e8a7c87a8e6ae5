/- 1 texts put together: what each one says stands ahead of it. -/
import Derived.Test.YtaffjfajjpgjpaaKLinkPlays09
import Derived.Deep.MidRow
set_option linter.unusedVariables false
namespace Go.Proofs.Ytaffjfajjpgjpaa
open Go.RowKit
variable {α:Type} [Itm α]
theorem dr_range {a b:World} (h:Drawn a b) {g o:Nat} {cs:List Value} (k:a.rangeAt g o cs):b.rangeAt g o cs:=fun j v hv=>(h.cell _).trans (k j v hv)
theorem dr_there {a b:World} (h:Drawn a b) {g o n:Nat} (k:a.there g o n):b.there g o n:=fun j hj=>⟨by rw [h.cell];exact (k j hj).1,by rw [h.frozen];exact (k j hj).2⟩
theorem Blk.range0 {w:World} {g:Nat} {T:TypeId} {cs:List Value} (h:Blk w g T cs.toArray):w.rangeAt g 0 cs:=fun j v hv=>by
 rw [Nat.zero_add];exact h.cell (by simpa using hv)
theorem Blk.there {w:World} {g:Nat} {T:TypeId} {cs:Array Value} (h:Blk w g T cs) {o n:Nat} (hn:o + n≤cs.size):w.there g o n:=fun j hj=>
 ⟨by rw [h.cell (Array.getElem?_eq_getElem (show o + j < cs.size by omega))];rfl,h.free _⟩
theorem Blk.range {w:World} {g k i:Nat} {T:TypeId} {l:List α} (h:Blk w g T (icells l)) (hk:Itm.k α=k) (hi:i < l.length):w.rangeAt g (i * k) (Itm.cs (l.getD i Itm.z)):=fun j v hv=>by
 subst hk
 have hj:j < Itm.k α:=by
  have:=(List.getElem?_eq_some_iff.1 hv).1
  rwa [Itm.len] at this
 exact h.cell ((icells_at j hi hj).trans hv)
theorem Blk.therei {w:World} {g k i:Nat} {T:TypeId} {l:List α} (h:Blk w g T (icells l)) (hk:Itm.k α=k) (hi:i < l.length):w.there g (i * k) k:=
 h.there (by subst hk;rw [icells_size,← Nat.succ_mul];exact Nat.mul_le_mul_right _ hi)
theorem cell_sets {w:World} {p:Addr} {v:Value} {g o:Nat} {cs:List Value} (h:w.cell? p=some v) (n:p.block≠g):(w.setCells g o cs).cell? p=some v:=by
 rw [World.cell?_setCells_out g cs o w p (fun e _=>absurd e n)];exact h
end Go.Proofs.Ytaffjfajjpgjpaa
