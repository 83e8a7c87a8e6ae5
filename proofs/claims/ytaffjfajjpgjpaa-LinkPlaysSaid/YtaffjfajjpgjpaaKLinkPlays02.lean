/- 1 texts put together: what each one says stands ahead of it. -/
import Derived.Below
import Derived.OneCell
import Derived.Deep.DeepFit
import Derived.WalkKit
import Derived.Deep.Draws
set_option linter.unusedVariables false
namespace Go.Proofs.Ytaffjfajjpgjpaa
open Go.RowKit
def Blk (w:World) (b:Nat) (T:TypeId) (cs:Array Value):Prop:=w.heap[b]? =some (.cells cs T (0,0))
theorem Blk.cell {w:World} {b:Nat} {T:TypeId} {cs:Array Value} (h:Blk w b T cs) {i:Nat} {v:Value} (hv:cs[i]? =some v):w.cell? ⟨b,i,none⟩=some v:=by
 unfold Blk at h;simp [World.cell?,h,hv]
theorem Blk.free {w:World} {b:Nat} {T:TypeId} {cs:Array Value} (h:Blk w b T cs) (i:Nat):w.frozen? ⟨b,i,none⟩=false:=by
 unfold Blk at h;simp [World.frozen?,h]
theorem Blk.lt {w:World} {b:Nat} {T:TypeId} {cs:Array Value} (h:Blk w b T cs):b < w.heap.size:=lt_of_block h
theorem Blk.set {w:World} {b:Nat} {T:TypeId} {cs:Array Value} (h:Blk w b T cs) (i:Nat) (u:Value):Blk (w.setCell ⟨b,i,none⟩ u) b T (cs.setIfInBounds i u):=by
 have hlt:=h.lt
 unfold Blk at h
 have h':w.heap[b]=.cells cs T (0,0):=by simpa [Array.getElem?_eq_getElem hlt] using h
 show (w.heap.modify b _)[b]? =_
 rw [Array.getElem?_eq_getElem (by simpa using hlt),Array.getElem_modify_self,h']
 rfl
theorem Blk.set_other {w:World} {b:Nat} {T:TypeId} {cs:Array Value} (h:Blk w b T cs) {c:Nat} (i:Nat) (u:Value) (hne:b≠c):Blk (w.setCell ⟨c,i,none⟩ u) b T cs:=by
 unfold Blk;rw [Below.heap_setCell _ _ _ _ hne];exact h
theorem Blk.alloc {w:World} {b:Nat} {T:TypeId} {cs:Array Value} (h:Blk w b T cs) (o:Obj):Blk (w.alloc o) b T cs:=by
 unfold Blk;rw [Below.heap_alloc _ _ _ h.lt];exact h
theorem Blk.new (w:World) (T:TypeId) (cs:Array Value):Blk (w.alloc (.cells cs T)) w.heap.size T cs:=heap_alloc_new w _
theorem Blk.new1 (w:World) (o:Obj) (T:TypeId) (cs:Array Value):Blk ((w.alloc o).alloc (.cells cs T)) (w.heap.size + 1) T cs:=by
 have:=Blk.new (w.alloc o) T cs
 simpa using this
theorem Blk.grown {w w':World} {b:Nat} {T:TypeId} {cs:Array Value} {row:Option Nat} (h:Blk w b T cs) (hg:w.grownBy w' row) (hne:some b≠row):Blk w' b T cs:=by
 unfold Blk;rw [hg.block b h.lt hne];exact h
theorem Blk.below {w w':World} {b B:Nat} {T:TypeId} {cs:Array Value} (h:Blk w b T cs) (hb:Below B w w') (hlt:b < B):Blk w' b T cs:=by
 unfold Blk;rw [hb.block b hlt];exact h
theorem Blk.keep {w w':World} {b:Nat} {T:TypeId} {cs:Array Value} (h:Blk w b T cs) (hb:Below w.heap.size w w'):Blk w' b T cs:=h.below hb h.lt
theorem Blk.drew {w:World} {b:Nat} {T:TypeId} {cs:Array Value} (h:Blk w b T cs):Blk w.drew b T cs:=h
theorem gr_refl (w:World) (row:Option Nat):w.grownBy w row:=⟨rfl,rfl,rfl,Nat.le_refl _,fun _ _ _=>rfl⟩
theorem gr_trans {a b c:World} {row:Option Nat} (h:a.grownBy b row) (k:b.grownBy c row):a.grownBy c row:=
 ⟨k.os.trans h.os,k.tape.trans h.tape,k.output.trans h.output,Nat.le_trans h.size k.size,fun i hi hr=>(k.block i (Nat.lt_of_lt_of_le hi h.size) hr).trans (h.block i hi hr)⟩
theorem gr_set {a w:World} {b:Nat} (h:a.grownBy w (some b)) (i:Nat) (u:Value):a.grownBy (w.setCell ⟨b,i,none⟩ u) (some b):=
 gr_trans h ⟨rfl,rfl,rfl,by simp [World.setCell],fun k _ hk=>Below.heap_setCell _ _ _ _ (fun e=>hk (by rw [e]))⟩
theorem gr_below {w w':World} (h:Below w.heap.size w w') (row:Option Nat):w.grownBy w' row:=⟨h.os,h.tape,h.output,h.size,fun k hk _=>h.block k hk⟩
theorem gr_drew {a w:World} {row:Option Nat} (h:a.grownBy w row):a.grownBy w.drew row:=⟨h.os,h.tape,h.output,h.size,h.block⟩
theorem bel_gr {B:Nat} {a w w':World} {b:Nat} (h:Below B a w) (hg:w.grownBy w' (some b)) (hB:B≤w.heap.size) (hb:B≤b):Below B a w':=
 h.grown hg hB (fun k e=>by cases e;exact hb)
theorem bel_to {B:Nat} {a w w':World} (h:Below B a w) (k:Below w.heap.size w w') (hB:B≤w.heap.size):Below B a w':=h.trans (k.mono hB)
def Drawn (w w':World):Prop:=∃m,w'=w.drewN m
theorem Drawn.refl (w:World):Drawn w w:=⟨0,rfl⟩
theorem Drawn.drew (w:World):Drawn w w.drew:=⟨1,rfl⟩
theorem Drawn.more {a b c:World} (h:Drawn a b) (k:Drawn b c):Drawn a c:=by
 obtain ⟨m,rfl⟩:=h;obtain ⟨n,rfl⟩:=k;exact ⟨m + n,by rw [World.drewN_drewN]⟩
theorem Drawn.cell {a b:World} (h:Drawn a b) (p:Addr):b.cell? p=a.cell? p:=by obtain ⟨m,rfl⟩:=h;rfl
theorem Drawn.frozen {a b:World} (h:Drawn a b) (p:Addr):b.frozen? p=a.frozen? p:=by obtain ⟨m,rfl⟩:=h;rfl
theorem Drawn.heap {a b:World} (h:Drawn a b):b.heap=a.heap:=by obtain ⟨m,rfl⟩:=h;rfl
theorem Drawn.blk {a b:World} (h:Drawn a b) {g:Nat} {T:TypeId} {cs:Array Value} (k:Blk a g T cs):Blk b g T cs:=by obtain ⟨m,rfl⟩:=h;exact k
theorem Drawn.below {a b:World} (h:Drawn a b) (B:Nat):Below B a b:=by obtain ⟨m,rfl⟩:=h;exact ⟨rfl,rfl,rfl,Nat.le_refl _,fun _ _=>rfl⟩
theorem results_cell {P:Program} {fn:Func} {p:Tmp} {ty:TypeId} (h:fn.results=#[.cell p ty]) (tmps:Array Value) (w:World) (g:Nat) (T:TypeId) (cs:Array Value) (d:TypeDesc)
  (hp:tmps.getD p undef=.pointer (some ⟨g,0,none⟩)) (hg:Blk w g T cs)
  (hu:P.underlying ty=some d) (hd:(match d with | .struct _ | .array _ _=>true | _=>false)=true) (hi:(P.info? ty).map (·.size)=some cs.size):
  (results fn tmps).run P w=.ok (.agg cs) w:=by
 have hp':tmps[p]?.getD undef=.pointer (some ⟨g,0,none⟩):=by simpa using hp
 simp [results,h,hp',asAddr,run_loadVar_row w g T ty cs (0,0) d hg hu hd hi]
theorem ret_u64 {a b:Int} (h:a=b):Ending.returned (.int .u64 a)=.returned (.int .u64 b):=by rw [h]
end Go.Proofs.Ytaffjfajjpgjpaa
