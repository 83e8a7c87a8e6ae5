/- 1 texts put together: what each one says stands ahead of it. -/
import Derived.Test.YtgpmnhhcjccofaaKLinkEnvelope09
import Derived.Test.YtgpmnhhcjccofaaProg
import Derived.Deep.QuietTactic
import Derived.BigQuiet
import Derived.Deep.LoopGhost
set_option linter.unusedVariables false
namespace Go.Proofs.Ytgpmnhhcjccofaa
open Go.RowKit
theorem its_pk {w:World} {ad:Addr} {l:List Pk} (h:Its w (some ad) l) (hp:0 < l.length):∃b off,ad=⟨b,off,none⟩∧b < w.heap.size∧∀k,k < l.length→∀x,x=l.getD k Itm.z→
  w.cell? ⟨b,off + k * 7,none⟩=some (.int .u64 (x.n:Int))∧w.cell? ⟨b,off + k * 7 + 1,none⟩=some (.int .u64 (x.size:Int))∧w.cell? ⟨b,off + k * 7 + 2,none⟩=some (.int .u64 (x.sent:Int))∧w.cell? ⟨b,off + k * 7 + 3,none⟩=some (.int .u64 (x.first:Int))∧w.cell? ⟨b,off + k * 7 + 4,none⟩=some (.int .u64 (x.deliv:Int))∧w.cell? ⟨b,off + k * 7 + 5,none⟩=some (.int .u64 (x.at_:Int))∧w.cell? ⟨b,off + k * 7 + 6,none⟩=some (.bool x.lim):=by
 obtain ⟨b,off,e,hb,hc⟩:=h hp
 injection e with e
 refine ⟨b,off,e,hb,fun k hk x hx=>?_⟩
 have k7:Itm.k Pk=7:=rfl
 subst hx
 exact ⟨hc k 0 hk (by rw [k7];omega),hc k 1 hk (by rw [k7];omega),hc k 2 hk (by rw [k7];omega),hc k 3 hk (by rw [k7];omega),hc k 4 hk (by rw [k7];omega),hc k 5 hk (by rw [k7];omega),hc k 6 hk (by rw [k7];omega)⟩
end Go.Proofs.Ytgpmnhhcjccofaa
