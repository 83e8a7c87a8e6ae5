/- 1 texts put together: what each one says stands ahead of it. -/
import Derived.Lib.Mul64
import Derived.Lib.BitFns
import Derived.Lib.ItoaNum
set_option linter.unusedVariables false
namespace Go.Proofs.Ytaffjfajjpgjpaa.Pl
def addS (a b:Nat):Nat:=min (a + b) 18446744073709551615
def sumS (l:List Nat):Nat:=min l.sum 18446744073709551615
def lessS (a:Nat) (l:List Nat):Nat:=a - l.sum
def subS (a b:Nat):Nat:=a - b
def mulS (a b:Nat):Nat:=min (a * b) 18446744073709551615
theorem addS_le (a b:Nat):addS a b≤18446744073709551615:=Nat.min_le_right _ _
theorem mulS_le (a b:Nat):mulS a b≤18446744073709551615:=Nat.min_le_right _ _
theorem subS_le (a b:Nat):subS a b≤a:=Nat.sub_le _ _
theorem shifted (x y p:Nat) (hp:0 < p):x * p / (y * p)=x / y∧x * p % (y * p) / p=x % y:=by
 constructor
 ·exact Nat.mul_div_mul_right x y hp
 ·rw [Nat.mul_mod_mul_right,Nat.mul_div_cancel _ hp]
end Go.Proofs.Ytaffjfajjpgjpaa.Pl
