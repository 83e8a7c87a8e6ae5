/- Lemmas. -/
import Derived.Lib.Mul64
import Derived.Lib.ItoaNum
set_option linter.unusedVariables false
namespace Go.Proofs.YtjhiooggnpbecaaGreatDoor.Pl
variable {n q r u v0 v1:Nat}
def addS (a b:Nat):Nat:=min (a + b) 18446744073709551615
def sumS (l:List Nat):Nat:=min l.sum 18446744073709551615
def lessS (a:Nat) (l:List Nat):Nat:=a - l.sum
def subS (a b:Nat):Nat:=a - b
def mulS (a b:Nat):Nat:=min (a * b) 18446744073709551615
def shareS (a b c:Nat):Nat:=if c=0 then 18446744073709551615 else min (a * b / c) 18446744073709551615
def overS (a b c:Nat):Nat:=if c=0 then 18446744073709551615 else min ((a * b + (c - 1)) / c) 18446744073709551615
theorem addS_le (a b:Nat):addS a b≤18446744073709551615:=Nat.min_le_right _ _
theorem mulS_le (a b:Nat):mulS a b≤18446744073709551615:=Nat.min_le_right _ _
theorem shareS_le (a b c:Nat):shareS a b c≤18446744073709551615:=by unfold shareS;split <;> omega
theorem overS_le (a b c:Nat):overS a b c≤18446744073709551615:=by unfold overS;split <;> omega
theorem subS_le (a b:Nat):subS a b≤a:=Nat.sub_le _ _
theorem sumS_two (a b:Nat):sumS [a,b]=addS a b:=by simp [sumS,addS]
theorem test_iff (q v1 v0 r n u:Nat) (h:q * v1 + r=u):
  4294967296 * r + n < q * v0↔u * 4294967296 + n < q * (v1 * 4294967296 + v0):=by
 have e:q * (v1 * 4294967296 + v0)=(q * v1) * 4294967296 + q * v0:=by rw [Nat.mul_add,Nat.mul_assoc]
 rw [e,← h];generalize q * v1=a;generalize q * v0=b;omega
structure Dig (v1 v0 u n q r:Nat):Prop where
 eq:q * v1 + r=u
 ge:(u * 4294967296 + n) / (v1 * 4294967296 + v0)≤q
 r_lt:r < 4294967296
 q_le:q≤4294967297
theorem dig_start (h1:2147483648≤v1) (h1':v1 < 4294967296) (h0:v0 < 4294967296) (hu:u < v1 * 4294967296 + v0) (hn:n < 4294967296):
  Dig v1 v0 u n (u / v1) (u % v1):=by
 have hm:=Nat.div_add_mod u v1;have hr:=Nat.mod_lt u (show 0 < v1 by omega);rw [Nat.mul_comm] at hm;refine ⟨hm,?_,by omega,?_⟩
 ·have hle:(u * 4294967296 + n) / (v1 * 4294967296 + v0)≤(u * 4294967296 + n) / (v1 * 4294967296):=Nat.div_le_div_left (by omega) (by omega)
  refine Nat.le_trans hle ?_;rw [Nat.mul_comm v1,← Nat.div_div_eq_div_mul];rw [show (u * 4294967296 + n) / 4294967296=u by omega];exact Nat.le_refl _
 ·have:u / v1 < 4294967298:=by
   rw [Nat.div_lt_iff_lt_mul (by omega)];omega
  omega
theorem quo_lt (h1:2147483648≤v1) (hu:u < v1 * 4294967296 + v0) (hn:n < 4294967296):
  (u * 4294967296 + n) / (v1 * 4294967296 + v0) < 4294967296:=by
 rw [Nat.div_lt_iff_lt_mul (by omega)];omega
theorem dig_step (h1:2147483648≤v1) (h1':v1 < 4294967296) (hu:u < v1 * 4294967296 + v0) (hn:n < 4294967296) (d:Dig v1 v0 u n q r)
  (h:4294967296≤q∨4294967296 * r + n < q * v0):1≤q∧(q - 1) * v1 + (r + v1)=u∧(u * 4294967296 + n) / (v1 * 4294967296 + v0)≤q - 1∧q - 1≤4294967296:=by
 have hq:=quo_lt h1 hu hn;have hgt:(u * 4294967296 + n) / (v1 * 4294967296 + v0) < q:=by
  rcases h with h | h
  ·omega
  ·rw [test_iff q v1 v0 r n u d.eq] at h
   rw [Nat.div_lt_iff_lt_mul (by omega)];exact h
 have h1q:1≤q:=Nat.lt_of_le_of_lt (Nat.zero_le _) hgt;refine ⟨h1q,?_,by omega,by have:=d.q_le;omega⟩;have e:=d.eq;obtain ⟨p,rfl⟩:∃p,q=p + 1:=⟨q - 1,by omega⟩;rw [Nat.add_mul] at e;simp only [Nat.add_sub_cancel];omega
theorem dig_next (h1:2147483648≤v1) (h1':v1 < 4294967296) (hu:u < v1 * 4294967296 + v0) (hn:n < 4294967296) (d:Dig v1 v0 u n q r)
  (h:4294967296≤q∨4294967296 * r + n < q * v0) (hr:r + v1 < 4294967296):Dig v1 v0 u n (q - 1) (r + v1):=by
 obtain ⟨_,e,g,l⟩:=dig_step h1 h1' hu hn d h;exact ⟨e,g,hr,by omega⟩
theorem dig_break (h1:2147483648≤v1) (h1':v1 < 4294967296) (h0:v0 < 4294967296) (hu:u < v1 * 4294967296 + v0) (hn:n < 4294967296) (d:Dig v1 v0 u n q r)
  (h:4294967296≤q∨4294967296 * r + n < q * v0) (hr:4294967296≤r + v1):q - 1=(u * 4294967296 + n) / (v1 * 4294967296 + v0):=by
 obtain ⟨_,e,g,l⟩:=dig_step h1 h1' hu hn d h;have hno:¬ 4294967296 * (r + v1) + n < (q - 1) * v0:=by
  have h2:(q - 1) * v0≤4294967296 * 4294967295:=Nat.mul_le_mul l (by omega);omega
 rw [test_iff (q - 1) v1 v0 (r + v1) n u e] at hno;have:q - 1≤(u * 4294967296 + n) / (v1 * 4294967296 + v0):=by
  rw [Nat.le_div_iff_mul_le (by omega)];omega
 omega
theorem dig_done (h1:2147483648≤v1) (d:Dig v1 v0 u n q r)
  (hno:¬ 4294967296 * r + n < q * v0):q=(u * 4294967296 + n) / (v1 * 4294967296 + v0):=by
 rw [test_iff q v1 v0 r n u d.eq] at hno;have:q≤(u * 4294967296 + n) / (v1 * 4294967296 + v0):=by
  rw [Nat.le_div_iff_mul_le (by omega)];omega
 have:=d.ge;omega
theorem two_digits_aux (u n1 n0 v q1 r1 q0 r0:Nat) (hv:0 < v) (e1:v * q1 + r1=u * 4294967296 + n1) (e0:v * q0 + r0=r1 * 4294967296 + n0) (l0:r0 < v):
  (u * 18446744073709551616 + (n1 * 4294967296 + n0)) / v=q1 * 4294967296 + q0∧(u * 18446744073709551616 + (n1 * 4294967296 + n0)) % v=r0:=by
 have m:v * (q1 * 4294967296 + q0)=(v * q1) * 4294967296 + v * q0:=by rw [Nat.mul_add,Nat.mul_assoc]
 refine (Nat.div_mod_unique (c:=r0) (d:=q1 * 4294967296 + q0) hv).2 ⟨?_,l0⟩;rw [m];generalize v * q1=A at *;generalize v * q0=D at *;omega
theorem two_digits (u n1 n0 v:Nat) (hv:0 < v):
  (u * 18446744073709551616 + (n1 * 4294967296 + n0)) / v=(u * 4294967296 + n1) / v * 4294967296 + ((u * 4294967296 + n1) % v * 4294967296 + n0) / v∧
  (u * 18446744073709551616 + (n1 * 4294967296 + n0)) % v=((u * 4294967296 + n1) % v * 4294967296 + n0) % v:=
 two_digits_aux u n1 n0 v _ _ _ _ hv (Nat.div_add_mod _ _) (Nat.div_add_mod _ _) (Nat.mod_lt _ hv)
theorem shifted (x y p:Nat) (hp:0 < p):x * p / (y * p)=x / y∧x * p % (y * p) / p=x % y:=by
 constructor
 ·exact Nat.mul_div_mul_right x y hp
 ·rw [Nat.mul_mod_mul_right,Nat.mul_div_cancel _ hp]
def lzN (y:Nat):Nat:=64 - Lib.bitLen y
theorem two_pow_split (s:Nat) (h:s≤64):2 ^ s * 2 ^ (64 - s)=18446744073709551616:=by
 rw [← Nat.pow_add,show s + (64 - s)=64 by omega]
theorem norm_shift (y:Nat) (h0:y≠0) (h:y < 18446744073709551616):
  lzN y≤63∧(lzN y:Int)=64 - (Lib.bitLen y:Int)∧9223372036854775808≤y * 2 ^ lzN y∧y * 2 ^ lzN y < 18446744073709551616:=by
 obtain ⟨b1,b2,b3⟩:=Lib.bitLenAux_bounds 64 y (by simpa using h) h0;have b4:Lib.bitLen y≤64:=Lib.bitLen_le y 64 (by omega) (by simpa using h);change 1≤Lib.bitLen y at b1
 change 2 ^ (Lib.bitLen y - 1)≤y at b2
 change y < 2 ^ Lib.bitLen y at b3
 unfold lzN;generalize Lib.bitLen y=L at *;have hpos:0 < 2 ^ (64 - L):=Nat.two_pow_pos _;refine ⟨by omega,by omega,?_,?_⟩
 ·have e:2 ^ (L - 1) * 2 ^ (64 - L)=9223372036854775808:=by rw [← Nat.pow_add,show L - 1 + (64 - L)=63 by omega]
  rw [← e];exact Nat.mul_le_mul_right _ b2
 ·have e:=two_pow_split L b4
  rw [← e];exact (Nat.mul_lt_mul_right hpos).2 b3
structure Norm (hi lo y s u l v:Nat):Prop where
 s_le:s≤63
 v_eq:v=y * 2 ^ s
 v_ge:9223372036854775808≤v
 v_lt:v < 18446744073709551616
 hs:hi * 2 ^ s < 18446744073709551616
 low:lo / 2 ^ (64 - s) < 2 ^ s
 u_eq:u=hi * 2 ^ s + lo / 2 ^ (64 - s)
 l_eq:l=lo * 2 ^ s % 18446744073709551616
 num:(hi * 18446744073709551616 + lo) * 2 ^ s=u * 18446744073709551616 + l
 u_lt:u < v
 l_lt:l < 18446744073709551616
theorem norm_aux (hi lo y p t:Nat) (hp:0 < p) (ht:0 < t) (hpt:p * t=18446744073709551616) (hy:hi < y) (hl:lo < 18446744073709551616) (v2:y * p < 18446744073709551616):
  hi * p < 18446744073709551616∧lo / t < p∧(hi * 18446744073709551616 + lo) * p=(hi * p + lo / t) * 18446744073709551616 + lo * p % 18446744073709551616∧hi * p + lo / t < y * p:=by
 have hlo:lo / t < p:=by rw [Nat.div_lt_iff_lt_mul ht];omega
 have hsl:hi * p < 18446744073709551616:=Nat.lt_of_le_of_lt (Nat.mul_le_mul_right _ (Nat.le_of_lt hy)) v2;have key:lo * p=lo / t * 18446744073709551616 + lo % t * p:=by
  conv=>lhs;rw [← Nat.div_add_mod lo t]
  rw [Nat.add_mul,← hpt,Nat.mul_comm t,Nat.mul_assoc,Nat.mul_comm t p]
 have hm:lo % t * p < 18446744073709551616:=by
  rw [← hpt,Nat.mul_comm p t];exact (Nat.mul_lt_mul_right hp).2 (Nat.mod_lt _ ht)
 have lq:lo * p % 18446744073709551616=lo % t * p:=by rw [key];omega
 have num:(hi * 18446744073709551616 + lo) * p=(hi * p + lo / t) * 18446744073709551616 + lo * p % 18446744073709551616:=by
  rw [lq,Nat.add_mul,key,Nat.add_mul,Nat.mul_right_comm];omega
 refine ⟨hsl,hlo,num,?_⟩;have hlt:(hi * 18446744073709551616 + lo) * p < y * 18446744073709551616 * p:=(Nat.mul_lt_mul_right hp).2 (by omega);rw [num,Nat.mul_right_comm] at hlt;generalize hi * p + lo / t=U at *;generalize lo * p % 18446744073709551616=L at *;generalize y * p=V at *;omega
theorem norm_of (hi lo y:Nat) (hy:hi < y) (hl:lo < 18446744073709551616) (h:y < 18446744073709551616):
  Norm hi lo y (lzN y) (hi * 2 ^ lzN y + lo / 2 ^ (64 - lzN y)) (lo * 2 ^ lzN y % 18446744073709551616) (y * 2 ^ lzN y):=by
 obtain ⟨s63,_,v1,v2⟩:=norm_shift y (by omega) h;obtain ⟨a,b,c,d⟩:=norm_aux hi lo y (2 ^ lzN y) (2 ^ (64 - lzN y)) (Nat.two_pow_pos _) (Nat.two_pow_pos _) (two_pow_split _ (by omega)) hy hl v2;exact ⟨s63,rfl,v1,v2,a,b,rfl,rfl,c,d,Nat.mod_lt _ (by omega)⟩
theorem or_add (a b s:Nat) (h:b < 2 ^ s):(a * 2 ^ s) ||| b=a * 2 ^ s + b:=by
 rw [Nat.mul_comm];exact (Nat.two_pow_add_eq_or_of_lt h a).symm
theorem div_two (hi lo y s u l v:Nat) (n:Norm hi lo y s u l v) (hy:0 < y):
  (hi * 18446744073709551616 + lo) / y=(u * 4294967296 + l / 4294967296) / v * 4294967296 + ((u * 4294967296 + l / 4294967296) % v * 4294967296 + l % 4294967296) / v∧
  (hi * 18446744073709551616 + lo) % y=((u * 4294967296 + l / 4294967296) % v * 4294967296 + l % 4294967296) % v / 2 ^ s:=by
 have hv:0 < v:=by have:=n.v_ge;omega
 obtain ⟨d,m⟩:=two_digits u (l / 4294967296) (l % 4294967296) v hv;rw [show l / 4294967296 * 4294967296 + l % 4294967296=l by omega,← n.num] at d m;obtain ⟨sd,sm⟩:=shifted (hi * 18446744073709551616 + lo) y (2 ^ s) (Nat.two_pow_pos _);rw [n.v_eq] at d m ⊢;exact ⟨by rw [← sd,d],by rw [← sm,m]⟩
end Go.Proofs.YtjhiooggnpbecaaGreatDoor.Pl
