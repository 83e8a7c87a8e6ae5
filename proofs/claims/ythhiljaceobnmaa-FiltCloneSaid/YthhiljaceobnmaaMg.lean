/- A filter, and the document's, side by side, over this translation: one act, and whether they are the same. -/
import Derived.Test.YthhiljaceobnmaaMf
set_option linter.unusedVariables false
namespace Go.Proofs.Ythhiljaceobnmaa
open Go.RowKit Pl

/-- A filter f, and the document's with all readings A, of the call's own from world W on. -/
def PairSt (W w : World) (a m : Nat) (f : FS) (win : Nat) (s : Bool) (now : Nat) (A : List Rd) : Prop :=
  ∃ (b g : Nat) (v : Value), FlAt w a b g f ∧ MAt w W.heap.size m v win s now A ∧ W.heap.size ≤ a ∧ W.heap.size ≤ b ∧ W.heap.size ≤ g ∧ W.heap.size ≤ m ∧ Below W.heap.size W w

theorem PairSt.keep {W w w' : World} {a m win now : Nat} {s : Bool} {f : FS} {A : List Rd} (h : PairSt W w a m f win s now A) (k : Below w.heap.size w w') : PairSt W w' a m f win s now A := by
  obtain ⟨b, g, v, h1, h2, h3, h4, h5, h6, h7⟩ := h
  exact ⟨b, g, v, h1.keep k, h2.keep k, h3, h4, h5, h6, bel_to h7 k h7.size⟩

/-- Acts that lie in memory stay. -/
def KeepAct (w w' : World) : Prop := ∀ X cs, Blk w X 29 cs → Blk w' X 29 cs

theorem MAt.far {w : World} {B m a b g win now : Nat} {v : Value} {s : Bool} {A : List Rd} {f : FS} (h : MAt w B m v win s now A) (k : FlAt w a b g f) : m ∉ [a, b, g] ∧ a ∉ mblocks m v ∧ b ∉ mblocks m v ∧ g ∉ mblocks m v := by
  obtain ⟨c1, k1⟩ := k.row.head
  obtain ⟨c2, k2⟩ := k.row.body
  have n1 := h.head.ty k.head (by decide)
  have n2 := h.head.ty k1 (by decide)
  have n3 := h.head.ty k2 (by decide)
  have q := h.row.far k
  have z : ∀ c, c ∈ [a, b, g] → v.ownBlock ≠ some c := fun c hc e => q c e hc
  have z1 := z a (by simp)
  have z2 := z b (by simp)
  have z3 := z g (by simp)
  refine ⟨by simp; omega, ?_, ?_, ?_⟩ <;> (simp [mblocks]; refine ⟨by omega, by assumption⟩)
theorem MAt.own_ge {w : World} {B m win now : Nat} {v : Value} {s : Bool} {A : List Rd} (h : MAt w B m v win s now A) (hm : B ≤ m) : ∀ x ∈ mblocks m v, B ≤ x := by
  intro x hx
  simp [mblocks] at hx
  rcases hx with rfl | e
  · exact hm
  · rcases h.row.2 with ⟨rfl, _⟩ | ⟨g, cap, rfl, _⟩
    · simp [Value.ownBlock] at e
    · simp [Value.ownBlock] at e
      subst e
      obtain ⟨cs, _, k⟩ := RL.blk h.row
      exact k

theorem pair_fl {W w w' : World} {a m win now : Nat} {s : Bool} {f f' : FS} {A : List Rd} {b g : Nat} {v : Value} {r e : Ending}
    (h1 : FlAt w a b g f) (h2 : MAt w W.heap.size m v win s now A) (h3 : W.heap.size ≤ a) (h4 : W.heap.size ≤ b) (h5 : W.heap.size ≤ g) (h6 : W.heap.size ≤ m) (h7 : Below W.heap.size W w) (p : FPost w a b g r f' e w') : PairSt W w' a m f' win s now A ∧ KeepAct w w' := by
  obtain ⟨g', q1, q2⟩ := p.at_
  have := h7.size
  have hf := h2.far h1
  refine ⟨⟨b, g', v, q1, ⟨h2.head.fr p.fr hf.1, h2.row.fr p.fr (h2.row.far h1)⟩, h3, h4, by omega, h6, bel_fp h7 p h7.size h3 h4 h5⟩, fun X cs hx => hx.fr p.fr ?_⟩
  obtain ⟨c1, k1⟩ := h1.row.head
  obtain ⟨c2, k2⟩ := h1.row.body
  simp
  exact ⟨hx.ty h1.head (by decide), hx.ty k1 (by decide), hx.ty k2 (by decide)⟩
theorem pair_me {W w w' : World} {a m win now win' now' : Nat} {s s' : Bool} {f : FS} {A A' : List Rd} {b g : Nat} {v v' : Value}
    (h1 : FlAt w a b g f) (h2 : MAt w W.heap.size m v win s now A) (h3 : W.heap.size ≤ a) (h4 : W.heap.size ≤ b) (h5 : W.heap.size ≤ g) (h6 : W.heap.size ≤ m) (h7 : Below W.heap.size W w) (q : MAt w' W.heap.size m v' win' s' now' A') (p : Fr w w' (mblocks m v)) : PairSt W w' a m f win' s' now' A' ∧ KeepAct w w' := by
  have := h7.size
  obtain ⟨_, n1, n2, n3⟩ := h2.far h1
  refine ⟨⟨b, g, v', h1.fr p n1 n2 n3, q, h3, h4, h5, h6, bel_fr h7 p h7.size (h2.own_ge h6)⟩, fun X cs hx => hx.fr p ?_⟩
  have k1 := hx.ty h2.head (by decide)
  have k2 := h2.row.ne hx (by decide)
  simp [mblocks]
  exact ⟨k1, k2⟩

theorem pair_fPut {z : Int} {W w : World} {a m win now t x : Nat} {s : Bool} {f : FS} {A : List Rd} (h : PairSt W w a m f win s now A) (ho : f.ok) (ht : t ≤ 18446744073709551615) (hz : f.err t = z) :
    Calls Try.prog 8 #[.pointer (some ⟨a, 0, none⟩), .int .u64 (t : Int), .int .u64 (x : Int)] w fun e w' => e = .returned (.int .i64 z) ∧ PairSt W w' a m (f.put t x) win s now A ∧ KeepAct w w' := by
  subst hz
  obtain ⟨b, g, v, h1, h2, h3, h4, h5, h6, h7⟩ := h
  exact (fl_Put a b g t x f w h1 ho ht).mono fun e w' p => ⟨p.e, pair_fl h1 h2 h3 h4 h5 h6 h7 p⟩
theorem pair_fTo {z : Int} {W w : World} {a m win now t : Nat} {s : Bool} {f : FS} {A : List Rd} (h : PairSt W w a m f win s now A) (ho : f.ok) (ht : t ≤ 18446744073709551615) (hz : f.err t = z) :
    Calls Try.prog 7 #[.pointer (some ⟨a, 0, none⟩), .int .u64 (t : Int)] w fun e w' => e = .returned (.int .i64 z) ∧ PairSt W w' a m (f.to t) win s now A ∧ KeepAct w w' := by
  subst hz
  obtain ⟨b, g, v, h1, h2, h3, h4, h5, h6, h7⟩ := h
  exact (fl_To a b g t f w h1 ho ht).mono fun e w' p => ⟨p.e, pair_fl h1 h2 h3 h4 h5 h6 h7 p⟩
theorem pair_mPut {z : Int} {W w : World} {a m win now t x : Nat} {s : Bool} {f : FS} {A : List Rd} (h : PairSt W w a m f win s now A) (hn : A.length ≤ 1000) (hz : (if t < now then (2 : Int) else 0) = z) :
    Calls Try.prog 19 #[.pointer (some ⟨m, 0, none⟩), .int .u64 (t : Int), .int .u64 (x : Int)] w fun e w' => e = .returned (.int .i64 z) ∧ PairSt W w' a m f win s (nowOf now t) (putAll A now t x) ∧ KeepAct w w' := by
  subst hz
  obtain ⟨b, g, v, h1, h2, h3, h4, h5, h6, h7⟩ := h
  refine (me_Put W.heap.size m win now t x s v A w h2 h7.size hn).mono fun e w' p => ⟨p.e, ?_⟩
  obtain ⟨v', q⟩ := p.at_
  exact pair_me h1 h2 h3 h4 h5 h6 h7 q p.fr
theorem pair_mTo {z : Int} {W w : World} {a m win now t : Nat} {s : Bool} {f : FS} {A : List Rd} (h : PairSt W w a m f win s now A) (hz : (if t < now then (2 : Int) else 0) = z) :
    Calls Try.prog 20 #[.pointer (some ⟨m, 0, none⟩), .int .u64 (t : Int)] w fun e w' => e = .returned (.int .i64 z) ∧ PairSt W w' a m f win s (nowOf now t) A ∧ KeepAct w w' := by
  subst hz
  obtain ⟨b, g, v, h1, h2, h3, h4, h5, h6, h7⟩ := h
  refine (me_To W.heap.size m win now t s v A w h2).mono fun e w' p => ⟨p.1, ?_⟩
  exact pair_me h1 h2 h3 h4 h5 h6 h7 p.2.1 (p.2.2.mono (by intro y hy; simp at hy; left; simp [mblocks, hy]))

/-- One act of a filter. -/
def FS.act (f : FS) (p : Bool) (t x : Nat) : FS := if p then f.put t x else f.to t
def actAll (A : List Rd) (now : Nat) (p : Bool) (t x : Nat) : List Rd := if p then putAll A now t x else A

def actBox5 (p : Bool) (t x : Nat) : Array Value := #[.bool p, .int .u64 (t : Int), .int .u64 (x : Int)]

set_option maxHeartbeats 1000000 in
theorem pair_act {W w : World} {a m win t x : Nat} {s p : Bool} {f : FS} {A : List Rd} (h : PairSt W w a m f win s f.t A) (ho : f.ok) (ht : t ≤ 18446744073709551615) (hn : A.length ≤ 1000) :
    Calls Try.prog 11 #[.pointer (some ⟨a, 0, none⟩), .pointer (some ⟨m, 0, none⟩), .agg #[.bool p, .int .u64 (t : Int), .int .u64 (x : Int)]] w fun e w' => e = .returned (.bool true) ∧ PairSt W w' a m (f.act p t x) win s (nowOf f.t t) (actAll A f.t p t x) := by
  have HO := Lib.hid ho
  obtain ⟨z, hz⟩ : ∃ z, f.err t = z := ⟨_, rfl⟩
  have HZ := Lib.hid hz
  clear hz
  have P0 : Hid (PairSt W (w.alloc (.cells #[.bool p, .int .u64 (t : Int), .int .u64 (x : Int)] 29)) a m f win s f.t A) := Lib.hid (h.keep ((Below.refl _ _).alloc (Nat.le_refl _) _))
  have P1 : Hid (PairSt W (w.alloc (.cells #[.bool p, .int .u64 (t : Int), .int .u64 (x : Int)] 29)).drew a m f win s f.t A) := Lib.hid (P0.out.keep ((Drawn.drew _).below _))
  have X1 := Lib.hid (Blk.new w 29 #[.bool p, .int .u64 (t : Int), .int .u64 (x : Int)])
  have X2 := Lib.hid (X1.out.drew)
  clear h
  have c0 := X1.out.cell (i := 0) (v := .bool p) rfl
  have c1 := X2.out.cell (i := 1) (v := .int .u64 (t : Int)) rfl
  have c2 := X2.out.cell (i := 2) (v := .int .u64 (x : Int)) rfl
  rcases p
  · have HR : Hid (f.act false t x = f.to t ∧ actAll A f.t false t x = A) := Lib.hid ⟨rfl, rfl⟩
    rw [HR.out.1, HR.out.2]
    go_enter Try.func11, Try.ntmps11
    go_wp2_with fail
    generalize w.alloc (.cells #[.bool false, .int .u64 (t : Int), .int .u64 (x : Int)] 29) = w0 at *
    go_region_held3 (fun w' => w'.cell? ⟨w.heap.size, 1, none⟩ = some (.int .u64 (t : Int)))
      (first | exact c1 | exact b1)
      (first | (go_at_call 7; refine (pair_fTo (by first | exact P2.out | exact P1.out) HO.out ht HZ.out).mono ?_; rintro e w' ⟨rfl, hp, hk⟩; have P2 := Lib.hid hp; have X3 := Lib.hid (hk _ _ (by first | exact X3.out | exact X2.out)); clear hp hk; have b1 := X3.out.cell (i := 1) (v := .int .u64 (t : Int)) rfl) | (go_at_call 20; refine (pair_mTo (by first | exact P2.out | exact P1.out) HZ.out).mono ?_; rintro e w' ⟨rfl, hp, hk⟩; have P2 := Lib.hid hp; have X3 := Lib.hid (hk _ _ (by first | exact X3.out | exact X2.out)); clear hp hk; have b1 := X3.out.cell (i := 1) (v := .int .u64 (t : Int)) rfl))
    all_goals (go_wp2_with fail; go_ret; exact ⟨rfl, P2.out⟩)
  · have HR : Hid (f.act true t x = f.put t x ∧ actAll A f.t true t x = putAll A f.t t x) := Lib.hid ⟨rfl, rfl⟩
    rw [HR.out.1, HR.out.2]
    go_enter Try.func11, Try.ntmps11
    go_wp2_with fail
    generalize w.alloc (.cells #[.bool true, .int .u64 (t : Int), .int .u64 (x : Int)] 29) = w0 at *
    go_region_held3 (fun w' => w'.cell? ⟨w.heap.size, 1, none⟩ = some (.int .u64 (t : Int)) ∧ w'.cell? ⟨w.heap.size, 2, none⟩ = some (.int .u64 (x : Int)))
      (first | exact ⟨c1, c2⟩ | exact ⟨b1, b2⟩)
      (first | (go_at_call 8; refine (pair_fPut (by first | exact P2.out | exact P1.out) HO.out ht HZ.out).mono ?_; rintro e w' ⟨rfl, hp, hk⟩; have P2 := Lib.hid hp; have X3 := Lib.hid (hk _ _ (by first | exact X3.out | exact X2.out)); clear hp hk; have b1 := X3.out.cell (i := 1) (v := .int .u64 (t : Int)) rfl; have b2 := X3.out.cell (i := 2) (v := .int .u64 (x : Int)) rfl) | (go_at_call 19; refine (pair_mPut (by first | exact P2.out | exact P1.out) hn HZ.out).mono ?_; rintro e w' ⟨rfl, hp, hk⟩; have P2 := Lib.hid hp; have X3 := Lib.hid (hk _ _ (by first | exact X3.out | exact X2.out)); clear hp hk; have b1 := X3.out.cell (i := 1) (v := .int .u64 (t : Int)) rfl; have b2 := X3.out.cell (i := 2) (v := .int .u64 (x : Int)) rfl))
    all_goals (go_wp2_with fail; go_ret; exact ⟨rfl, P2.out⟩)
end Go.Proofs.Ythhiljaceobnmaa
