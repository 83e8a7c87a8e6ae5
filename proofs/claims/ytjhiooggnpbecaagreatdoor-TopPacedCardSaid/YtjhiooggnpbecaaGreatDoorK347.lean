/- Lemmas. -/
import Derived.Test.YtjhiooggnpbecaaGreatDoorK345
import Derived.Deep.SlicePairs
import Derived.Deep.Fields
import Derived.ProofKit
import Derived.OpenShut
set_option linter.unusedVariables false
namespace Go.Proofs.YtjhiooggnpbecaaGreatDoor
open Go.ChangeShapes Go.WideShapes Go.ChangeAt Go.RowKit
structure tK (w:World) (v:Option Addr) (n cap:Nat) (l:List Nat):Prop where
 len:l.length=n
 le:n≤cap
 big:cap≤9223372036854775807
 nus:Nus w v l
 mx:∀x∈l,x≤↑ω
theorem tK.lt {w:World} {v:Option Addr} {len cap:Nat} {l:List Nat} (h:tK w v len cap l) (hp:0 < l.length):∀a,v=some a→a.block < w.heap.size:=by
 obtain ⟨b,off,e,hb,_⟩:=h.nus hp;intro a ha;rw [e] at ha;injection ha with ha
 subst ha;exact hb
theorem tK.keep {w w':World} {v:Option Addr} {len cap:Nat} {l:List Nat} (h:tK w v len cap l) (k:Below ↑w w w'):tK w' v len cap l:=⟨h.len,h.le,h.big,h.nus.keep k,h.mx⟩
end Go.Proofs.YtjhiooggnpbecaaGreatDoor
