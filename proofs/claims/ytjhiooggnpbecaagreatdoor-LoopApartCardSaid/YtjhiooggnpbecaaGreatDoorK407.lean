/- Lemmas. -/
import Derived.Lib.ItoaNum
import Derived.Lib.IndexMore
import Derived.Lib.ParseIntBCases
import Derived.Lib.Join
set_option linter.unusedVariables false
namespace Go.Proofs.YtjhiooggnpbecaaGreatDoor.Cf
open Go.Lib
abbrev Setup:=Fin 6→Nat
def names:List (List UInt8):=[[109,115,115],[105,110,105,116],[114,101,111,114,100,101,114],[119,105,110,100,111,119],[112,114,111,98,101],[108,111,115,115]]
def leasts:List Nat:=[1,4,1,1,1,0]
def mosts:List Nat:=[65535,1000,100,1099511627776,1099511627776,1000]
def word (k:Fin 6):List UInt8:=names.getD k.val []
def least (k:Fin 6):Nat:=leasts.getD k.val 0
def most (k:Fin 6):Nat:=mosts.getD k.val 0
def fits (c:Setup) (k:Fin 6):Bool:=decide (least k≤c k∧c k≤most k)
def all6:List (Fin 6):=[0,1,2,3,4,5]
def rightC (c:Setup):Bool:=all6.all (fits c)
theorem fin6 (P:Fin 6→Prop) (h0:P 0) (h1:P 1) (h2:P 2) (h3:P 3) (h4:P 4) (h5:P 5) (k:Fin 6):P k:=by
 match k with
 | 0=>exact h0
 | 1=>exact h1
 | 2=>exact h2
 | 3=>exact h3
 | 4=>exact h4
 | 5=>exact h5
end Go.Proofs.YtjhiooggnpbecaaGreatDoor.Cf
