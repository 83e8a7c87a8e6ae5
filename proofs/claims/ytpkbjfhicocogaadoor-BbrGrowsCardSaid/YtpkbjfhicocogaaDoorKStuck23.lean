/- 5 texts put together: what each one says stands ahead of it. -/
import Derived.Test.YtpkbjfhicocogaaDoorKStuck12
import Derived.Test.YtpkbjfhicocogaaDoorKStuck13
import Derived.Test.YtpkbjfhicocogaaDoorKStuck10
import Derived.Test.YtpkbjfhicocogaaDoorKStuck16
import Derived.Test.YtpkbjfhicocogaaDoorKStuck19
import Derived.Test.YtpkbjfhicocogaaDoorKStuck20
import Derived.Test.YtpkbjfhicocogaaDoorKStuck21
import Derived.Test.YtpkbjfhicocogaaDoorKStuck08
import Derived.Test.YtpkbjfhicocogaaDoorKStuck22
import Derived.Deep.RegionHeld3
import Derived.BigRegion
import Derived.Deep.QuietTactic
import Derived.BigQuiet
/- An engine in plain words: its state, its steps, what it tells; and that its numbers stay within 64 bits. -/
set_option linter.unusedVariables false
namespace Go.Proofs.YtpkbjfhicocogaaDoor
open Go.RowKit Cf

abbrev M64 : Nat := 18446744073709551615

/-- An event. -/
structure EvS where
  now : Nat
  sd : Nat
  si : Nat
  sr : Nat
  rt : Nat
  sl : Bool
  sm : Bool
  dl : Nat
  ac : Nat
  lo : Nat
  fl : Nat
structure EvS.ok (x : EvS) : Prop where
  now : x.now ≤ 18446744073709551615
  sd : x.sd ≤ 18446744073709551615
  si : x.si ≤ 18446744073709551615
  sr : x.sr ≤ 18446744073709551615
  rt : x.rt ≤ 18446744073709551615
  dl : x.dl ≤ 18446744073709551615
  ac : x.ac ≤ 18446744073709551615
  lo : x.lo ≤ 18446744073709551615
  fl : x.fl ≤ 18446744073709551615

/-- An engine. -/
structure ES where
  c : Setup
  p : Pi
  bs : BS
  f : FS
  y : CY
  n : Ct
  st : Int
  began : Nat
  rounds : Nat
  acked : Nat
  lost : Nat
  cwnd : Nat
  kept : Nat
  ended : Nat

def firstC (c : Setup) : Nat := Pl.mulS (c 1) (c 0)
def leastC (c : Setup) : Nat := Pl.mulS 4 (c 0)
def ES.trip (s : ES) : Nat := if s.f.some = true then s.f.best.x else 1000
def ES.rate (s : ES) : Nat := if s.y.best = 0 then Pl.shareS (firstC s.c) 1000000 s.trip else s.y.best
def ES.holds (s : ES) : Nat := Pl.overS s.rate s.trip 1000000
def ES.uses (s : ES) : Nat := Pl.overS (s.bs.limit s.rate) s.trip 1000000
def ES.pace (s : ES) : Nat := min (max (paceG (stG s.st) (s.bs.limit s.rate)) (leastC s.c)) 1099511627776
def ES.quant (s : ES) : Nat := quantumC (s.c 0) s.pace
def ES.stale (s : ES) (now : Nat) : Bool := s.f.some && decide (s.c 3 / 2 < Pl.subS now (max s.f.best.t s.ended))

def ES.count (s : ES) (x : EvS) : ES := { s with acked := Pl.addS s.acked x.ac, lost := Pl.addS s.lost x.lo }
def ES.rput (s : ES) (x : EvS) : Bool := !x.sl || decide (s.y.best ≤ x.sr)
def ES.mea (s : ES) (x : EvS) : ES :=
  if x.sm = true then { s with f := s.f.put x.now x.rt, y := if s.rput x = true then s.y.put [x.sr] else s.y, n := s.n.ackS (Pl.subS x.dl x.sd) x.dl }
  else { s with f := s.f.to x.now }
def ES.over (s : ES) (x : EvS) : Bool := x.sm && s.n.ackB (Pl.subS x.dl x.sd)
def ES.lossy (s : ES) : Bool := decide (Pl.mulS (s.c 5) (Pl.addS s.acked s.lost) < Pl.mulS s.lost 1000)
def ES.settle (s : ES) : ES := { s with acked := 0, lost := 0, rounds := Pl.addS s.rounds 1 }
def ES.pput (s : ES) (o l : Bool) : ES := { s with p := s.p.put s.y.best o l }
def ES.yield (s : ES) (x : EvS) : ES := { s with bs := if s.st = 0 ∨ s.st = 5 then s.bs.pull x.fl s.holds else s.bs.lose x.sd x.sr s.cwnd }
def ES.sig (s : ES) (x : EvS) (o l : Bool) : SigS := ⟨s.p.full, o, l, s.stale x.now, x.fl, s.holds, s.bs.room, s.rounds, Pl.subS x.now s.began, waitS s.st s.y.n (s.c 4)⟩
def ES.side (s : ES) (now : Nat) (t : Int) : ES :=
  if s.st = 6 then { s with ended := now, cwnd := max s.cwnd s.kept }
  else if t = 6 then { s with kept := s.cwnd }
  else if t = 4 then { s with bs := s.bs.short }
  else if s.st = 5 ∧ t = 2 then { s with y := s.y.next }
  else s
def ES.turn (s : ES) (now : Nat) (t : Int) : ES := if t = s.st then s else { s.side now t with st := t, began := now, rounds := 0 }
def ES.push (s : ES) (x : EvS) : ES := { s with bs := s.bs.push x.ac }
def ES.o1 (s : ES) (ac : Nat) : Nat := if s.st ≠ 0 ∨ s.p.full = true then min (Pl.addS s.cwnd ac) (Pl.addS (windowG (stG s.st) s.uses) s.quant) else Pl.addS s.cwnd ac
def ES.o2 (s : ES) (ac : Nat) : Nat := s.bs.cap [s.o1 ac]
def ES.o3 (s : ES) (ac : Nat) : Nat := if s.st = 2 ∨ s.st = 3 then min (s.o2 ac) s.bs.room else if s.st = 6 then min (s.o2 ac) (windowG (stG s.st) s.uses) else s.o2 ac
def ES.open (s : ES) (ac : Nat) : Nat := min (max (s.o3 ac) (leastC s.c)) 72057594037927936

/-- The steps of an event, one behind the other. -/
def ES.e3 (s : ES) (x : EvS) : ES := if (s.count x).over x = true then ((s.count x).mea x).settle else (s.count x).mea x
def ES.eo (s : ES) (x : EvS) : Bool := (s.count x).over x
def ES.el (s : ES) (x : EvS) : Bool := s.eo x && ((s.count x).mea x).lossy
def ES.e4 (s : ES) (x : EvS) : ES := if x.sm = true then (s.e3 x).pput (s.eo x) x.sl else s.e3 x
def ES.e5 (s : ES) (x : EvS) : ES := if s.el x = true then (s.e4 x).yield x else s.e4 x
def ES.e6 (s : ES) (x : EvS) : ES := (s.e5 x).turn x.now (nextS (s.e5 x).st ((s.e5 x).sig x (s.eo x) (s.el x)))
def ES.e7 (s : ES) (x : EvS) : ES := if (s.e6 x).st = 5 ∧ s.el x = false then (s.e6 x).push x else s.e6 x
def ES.on (s : ES) (x : EvS) : ES := { s.e7 x with cwnd := (s.e7 x).open x.ac }

structure ES.ok (s : ES) (k : Nat) : Prop where
  c : ∀ i, s.c i ≤ 18446744073709551615
  p : s.p.ok
  bs : s.bs.ok
  f : s.f.ok
  fn : s.f.l.length ≤ k
  fx : ∀ r ∈ s.f.l, r.x ≤ 18446744073709551615
  ya : s.y.a ≤ 18446744073709551615
  yt : s.y.t ≤ 18446744073709551615
  yn : s.y.n ≤ 18446744073709551615
  nm : s.n.mark ≤ 18446744073709551615
  nn : s.n.n ≤ k
  st : 0 ≤ s.st ∧ s.st ≤ 6
  began : s.began ≤ 18446744073709551615
  rounds : s.rounds ≤ 18446744073709551615
  acked : s.acked ≤ 18446744073709551615
  lost : s.lost ≤ 18446744073709551615
  cwnd : s.cwnd ≤ 18446744073709551615
  kept : s.kept ≤ 18446744073709551615
  ended : s.ended ≤ 18446744073709551615

theorem FS.to_x {f : FS} {t : Nat} {B : Nat} (h : ∀ r ∈ f.l, r.x ≤ B) : ∀ r ∈ (f.to t).l, r.x ≤ B := by
  unfold FS.to; split
  · exact h
  · exact fun r hr => h r ((List.dropWhile_sublist _).subset hr)
theorem FS.put_x {f : FS} {t x : Nat} {B : Nat} (h : ∀ r ∈ f.l, r.x ≤ B) (hx : x ≤ B) : ∀ r ∈ (f.put t x).l, r.x ≤ B := by
  have h2 := FS.to_x (t := t) h
  unfold FS.put; split
  · exact h
  · intro r hr
    simp only [List.mem_append, List.mem_singleton] at hr
    rcases hr with hr | rfl
    · obtain ⟨q, hq, _⟩ := popL_split (bt f.least ⟨t, x⟩) (f.to t).l
      exact h2 r (by rw [hq]; exact List.mem_append_left _ hr)
    · exact hx
theorem FS.best_x {f : FS} {B : Nat} (h : ∀ r ∈ f.l, r.x ≤ B) : f.best.x ≤ B := by
  unfold FS.best
  match hl : f.l with
  | [] => exact Nat.zero_le _
  | r :: _ => exact h r (by rw [hl]; exact List.mem_cons_self)
theorem FS.best_t {f : FS} (h : f.ok) : f.best.t ≤ 18446744073709551615 := by
  unfold FS.best
  match hl : f.l with
  | [] => exact Nat.zero_le _
  | r :: _ => exact h.l r (by rw [hl]; exact List.mem_cons_self)
theorem CY.best_le {y : CY} {B : Nat} (ha : y.a ≤ B) (ht : y.t ≤ B) : y.best ≤ B := by unfold CY.best; omega

theorem ES.trip_le {s : ES} {k : Nat} (h : s.ok k) : s.trip ≤ 18446744073709551615 := by
  have := FS.best_x h.fx
  unfold ES.trip; split <;> omega
theorem ES.rate_le {s : ES} {k : Nat} (h : s.ok k) : s.rate ≤ 18446744073709551615 := by
  have := CY.best_le h.ya h.yt
  have := Pl.shareS_le (firstC s.c) 1000000 s.trip
  unfold ES.rate; split <;> omega
theorem ES.limit_le {s : ES} {k : Nat} (h : s.ok k) : s.bs.limit s.rate ≤ 18446744073709551615 := by
  have := ES.rate_le h
  unfold BS.limit; omega
theorem ES.holds_le (s : ES) : s.holds ≤ 18446744073709551615 := Pl.overS_le _ _ _
theorem ES.uses_le (s : ES) : s.uses ≤ 18446744073709551615 := Pl.overS_le _ _ _
theorem ES.pace_le (s : ES) : s.pace ≤ 1099511627776 := Nat.min_le_right _ _
theorem paceG_le (k x : Nat) : paceG k x ≤ 18446744073709551615 := Pl.shareS_le _ _ _
theorem windowG_le (k x : Nat) : windowG k x ≤ 18446744073709551615 := Pl.overS_le _ _ _
theorem firstC_le (c : Setup) : firstC c ≤ 18446744073709551615 := Pl.mulS_le _ _
theorem leastC_le (c : Setup) : leastC c ≤ 18446744073709551615 := Pl.mulS_le _ _
theorem ES.quant_le (s : ES) : s.quant ≤ 18446744073709551615 := by
  have := Pl.mulS_le 64 (s.c 0)
  unfold ES.quant quantumC; omega
theorem BS.room_le {b : BS} (h : b.ok) : b.room ≤ 18446744073709551615 := by
  unfold BS.room; split
  · exact Nat.le_refl _
  · exact Pl.shareS_le _ _ _
theorem waitS_le (s : Int) (n p : Nat) (hp : p ≤ 18446744073709551615) : waitS s n p ≤ 18446744073709551615 := by
  have : n % 8 < 8 := Nat.mod_lt _ (by omega)
  unfold waitS; split
  · omega
  · split <;> omega
theorem nextS_in (s : Int) (x : SigS) (h : 0 ≤ s ∧ s ≤ 6) : 0 ≤ nextS s x ∧ nextS s x ≤ 6 := by
  have h1 := (next_follows s x).2
  have h2 : rightI s = true := by unfold rightI; simp; omega
  rw [h2] at h1
  unfold rightI at h1
  simpa using h1
theorem ES.sig_ok {s : ES} {k : Nat} (h : s.ok k) {x : EvS} (hx : x.ok) (o l : Bool) : (s.sig x o l).ok :=
  ⟨hx.fl, s.holds_le, BS.room_le h.bs, h.rounds, Nat.le_trans (Pl.subS_le _ _) hx.now, waitS_le _ _ _ (h.c 4)⟩

theorem ES.count_ok {s : ES} {k : Nat} (h : s.ok k) (x : EvS) : (s.count x).ok k :=
  { h with acked := Pl.addS_le _ _, lost := Pl.addS_le _ _ }
theorem ES.mea_ok {s : ES} {k : Nat} (h : s.ok k) {x : EvS} (hx : x.ok) (hk : k ≤ 900) : (s.mea x).ok (k + 1) := by
  have hn := h.fn
  have hb : s.n.n ≤ k + 1 := Nat.le_succ_of_le h.nn
  unfold ES.mea
  split
  · refine { h with f := FS.put_ok h.f hx.now (by omega), fn := Nat.le_trans (FS.put_len _ _ _) (by omega), fx := FS.put_x h.fx hx.rt, ya := ?_, yt := ?_, yn := ?_, nm := ?_, nn := ?_ }
    · dsimp only; split
      · exact h.ya
      · exact h.ya
    · dsimp only; split
      · exact mxs_lt h.yt (by simp; exact hx.sr)
      · exact h.yt
    · dsimp only; split
      · exact h.yn
      · exact h.yn
    · unfold Ct.ackS; dsimp only; split
      · exact hx.dl
      · exact h.nm
    · have := Ct.ackS_n s.n (Pl.subS x.dl x.sd) x.dl
      have := h.nn
      dsimp only; omega
  · exact { h with f := FS.to_ok h.f hx.now, fn := Nat.le_trans (FS.to_len _ _) (by omega), fx := FS.to_x h.fx, nn := hb }
theorem ES.settle_ok {s : ES} {k : Nat} (h : s.ok k) : s.settle.ok k := { h with acked := Nat.zero_le _, lost := Nat.zero_le _, rounds := Pl.addS_le _ _ }
theorem ES.pput_ok {s : ES} {k : Nat} (h : s.ok k) (o l : Bool) : (s.pput o l).ok k := { h with p := Pi.put_ok h.p (CY.best_le h.ya h.yt) o l }
theorem ES.yield_ok {s : ES} {k : Nat} (h : s.ok k) {x : EvS} (hx : x.ok) : (s.yield x).ok k :=
  { h with bs := by unfold ES.yield; dsimp only; split; exact BS.pull_ok h.bs hx.fl; exact BS.lose_ok h.bs hx.sd hx.sr }
theorem BS.short_ok {b : BS} (h : b.ok) : b.short.ok := ⟨h.hi, Nat.le_refl _, Nat.le_refl _⟩
theorem ES.side_ok {s : ES} {k : Nat} (h : s.ok k) {now : Nat} (hn : now ≤ 18446744073709551615) (t : Int) : (s.side now t).ok k := by
  have h1 := h.cwnd
  have h2 := h.kept
  unfold ES.side
  split
  · exact { h with ended := hn, cwnd := by dsimp only; omega }
  · split
    · exact { h with kept := h.cwnd }
    · split
      · exact { h with bs := BS.short_ok h.bs }
      · split
        · refine { h with ya := h.yt, yt := Nat.zero_le _, yn := ?_ }
          have := Nat.mod_lt (s.y.n + 1) (show 0 < 18446744073709551616 by omega)
          show (s.y.n + 1) % 18446744073709551616 ≤ _
          omega
        · exact h
theorem ES.turn_ok {s : ES} {k : Nat} (h : s.ok k) {now : Nat} (hn : now ≤ 18446744073709551615) {t : Int} (ht : 0 ≤ t ∧ t ≤ 6) : (s.turn now t).ok k := by
  unfold ES.turn
  split
  · exact h
  · exact { ES.side_ok h hn t with st := ht, began := hn, rounds := Nat.zero_le _ }
theorem ES.push_ok {s : ES} {k : Nat} (h : s.ok k) (x : EvS) : (s.push x).ok k := { h with bs := BS.push_ok h.bs _ }
theorem ES.open_le (s : ES) (ac : Nat) : s.open ac ≤ 72057594037927936 := Nat.min_le_right _ _
theorem ES.e3_ok {s : ES} {k : Nat} (h : s.ok k) {x : EvS} (hx : x.ok) (hk : k ≤ 900) : (s.e3 x).ok (k + 1) := by
  have := ES.mea_ok (ES.count_ok h x) hx hk
  unfold ES.e3; split
  · exact ES.settle_ok this
  · exact this
theorem ES.e4_ok {s : ES} {k : Nat} (h : s.ok k) {x : EvS} (hx : x.ok) (hk : k ≤ 900) : (s.e4 x).ok (k + 1) := by
  have := ES.e3_ok h hx hk
  unfold ES.e4; split
  · exact ES.pput_ok this _ _
  · exact this
theorem ES.e5_ok {s : ES} {k : Nat} (h : s.ok k) {x : EvS} (hx : x.ok) (hk : k ≤ 900) : (s.e5 x).ok (k + 1) := by
  have := ES.e4_ok h hx hk
  unfold ES.e5; split
  · exact ES.yield_ok this hx
  · exact this
theorem ES.e6_ok {s : ES} {k : Nat} (h : s.ok k) {x : EvS} (hx : x.ok) (hk : k ≤ 900) : (s.e6 x).ok (k + 1) := by
  have h5 := ES.e5_ok h hx hk
  exact ES.turn_ok h5 hx.now (nextS_in _ _ h5.st)
theorem ES.e7_ok {s : ES} {k : Nat} (h : s.ok k) {x : EvS} (hx : x.ok) (hk : k ≤ 900) : (s.e7 x).ok (k + 1) := by
  have := ES.e6_ok h hx hk
  unfold ES.e7; split
  · exact ES.push_ok this _
  · exact this
theorem ES.on_ok {s : ES} {k : Nat} (h : s.ok k) {x : EvS} (hx : x.ok) (hk : k ≤ 900) : (s.on x).ok (k + 1) :=
  { ES.e7_ok h hx hk with cwnd := Nat.le_trans (ES.open_le _ _) (by omega) }

/-- A new one. -/
def ES.new (c : Setup) : ES := ⟨c, Pi.zero, BS.none, ⟨c 3, 0, true, []⟩, ⟨0, 0, 0⟩, Ct.zero, 0, 0, 0, 0, 0, firstC c, 0, 0⟩
theorem ES.new_ok {c : Setup} (h : ∀ i, c i ≤ 18446744073709551615) : (ES.new c).ok 0 :=
  ⟨h, ⟨Nat.zero_le _, Nat.zero_le _⟩, BS.none_ok, ⟨h 3, Nat.zero_le _, by simp [ES.new], by simp [ES.new]⟩, Nat.le_refl _, by simp [ES.new], Nat.zero_le _, Nat.zero_le _, Nat.zero_le _, Nat.zero_le _, Nat.le_refl _, ⟨show (0 : Int) ≤ 0 by decide, show (0 : Int) ≤ 6 by decide⟩, Nat.zero_le _, Nat.zero_le _, Nat.zero_le _, Nat.zero_le _, firstC_le _, Nat.zero_le _, Nat.zero_le _⟩
end Go.Proofs.YtpkbjfhicocogaaDoor

/- An engine in memory; contracts of package bbr over this translation: what only reads. -/
set_option linter.unusedVariables false
namespace Go.Proofs.YtpkbjfhicocogaaDoor
open Go.RowKit Cf

/-- Where an engine's pieces lie: itself, its pipe, its filter (with its row), its cycle, its counter. -/
structure EP where
  b : Nat
  p : Nat
  a : Nat
  r : Nat
  y : Nat
  n : Nat
def ecells (P : EP) (s : ES) : Array Value := #[.int .u64 (s.c 0 : Int), .int .u64 (s.c 1 : Int), .int .u64 (s.c 2 : Int), .int .u64 (s.c 3 : Int), .int .u64 (s.c 4 : Int), .int .u64 (s.c 5 : Int), .pointer (some ⟨P.p, 0, none⟩), .int .u64 (s.bs.hi : Int), .int .u64 (s.bs.lo : Int), .int .u64 (s.bs.bw : Int), .pointer (some ⟨P.a, 0, none⟩), .pointer (some ⟨P.y, 0, none⟩), .pointer (some ⟨P.n, 0, none⟩), .int .i64 s.st, .int .u64 (s.began : Int), .int .u64 (s.rounds : Int), .int .u64 (s.acked : Int), .int .u64 (s.lost : Int), .int .u64 (s.cwnd : Int), .int .u64 (s.kept : Int), .int .u64 (s.ended : Int)]
def etypes : List TypeId := [58, 81, 87, 118, 85, 90, 92]
/-- All blocks of other types are as they were. -/
def KT (w w' : World) : Prop := ∀ T, T ∉ etypes → ∀ b cs, Blk w b T cs → Blk w' b T cs
theorem KT.refl (w : World) : KT w w := fun _ _ _ _ h => h
theorem KT.trans {a b c : World} (h : KT a b) (k : KT b c) : KT a c := fun T hT x cs q => k T hT x cs (h T hT x cs q)
theorem KT.below {w w' : World} (h : Below w.heap.size w w') : KT w w' := fun _ _ _ _ q => q.keep h
theorem KT.gr {w w' : World} {b : Nat} {U : TypeId} {ds : Array Value} (h : w.grownBy w' (some b)) (k : Blk w b U ds) (hU : U ∈ etypes) : KT w w' :=
  fun T hT x cs q => q.grown h (fun e => by have e' : x = b := by simpa using e
                                            exact hT ((show T = U from by have := q.ty k; exact Classical.not_not.1 (fun hne => this hne e')) ▸ hU))
theorem KT.set {w w0 : World} {b : Nat} {U : TypeId} {ds : Array Value} (k0 : KT w0 w) (k : Blk w b U ds) (hU : U ∈ etypes) (i : Nat) (u : Value) : KT w0 (w.setCell ⟨b, i, none⟩ u) :=
  k0.trans (KT.gr (gr_set (gr_refl _ _) i u) k hU)

/-- An engine in memory: all of it at B and behind it; and the table of gains. -/
structure EngAt (w : World) (B : Nat) (P : EP) (s : ES) : Prop where
  e : Blk w P.b 58 (ecells P s)
  p : Blk w P.p 81 s.p.cells
  f : ∃ g, B ≤ g ∧ FlAt w P.a P.r g s.f
  y : CyAt w P.y s.y
  n : Blk w P.n 92 s.n.cells
  gl : Gl w
  lo : 0 < B
  own : B ≤ P.b ∧ B ≤ P.p ∧ B ≤ P.a ∧ B ≤ P.r ∧ B ≤ P.y ∧ B ≤ P.n
theorem EngAt.keep {w w' : World} {B : Nat} {P : EP} {s : ES} (h : EngAt w B P s) (k : Below w.heap.size w w') : EngAt w' B P s :=
  ⟨h.e.keep k, h.p.keep k, by obtain ⟨g, a, b⟩ := h.f; exact ⟨g, a, b.keep k⟩, Blk.keep h.y k, h.n.keep k, h.gl.keep k, h.lo, h.own⟩
theorem EngAt.size {w : World} {B : Nat} {P : EP} {s : ES} (h : EngAt w B P s) : B ≤ w.heap.size := Nat.le_trans h.own.1 (Nat.le_of_lt h.e.lt)
theorem Gl.below {w w' : World} {B : Nat} (h : Gl w) (hb : Below B w w') (hB : 0 < B) : Gl w' := fun k hk =>
  ⟨(hb.cell (p := ⟨0, _, none⟩) hB).trans (h k hk).1, (hb.cell (p := ⟨0, _, none⟩) hB).trans (h k hk).2⟩

/-- What holds while a call reads an engine. -/
structure EngI (W : World) (B : Nat) (P : EP) (s : ES) (w : World) : Prop where
  at_ : EngAt w B P s
  bel : Below W.heap.size W w
theorem EngI.to {W w w' : World} {B : Nat} {P : EP} {s : ES} (h : EngI W B P s w) (k : Below w.heap.size w w') : EngI W B P s w' := ⟨h.at_.keep k, bel_to h.bel k h.bel.size⟩
theorem EngI.drew {W w : World} {B : Nat} {P : EP} {s : ES} (h : EngI W B P s w) : EngI W B P s w.drew := h.to ((Drawn.drew w).below _)
theorem EngI.start {W : World} {B : Nat} {P : EP} {s : ES} (h : EngAt W B P s) : EngI W B P s W := ⟨h, Below.refl _ _⟩

theorem ei_bs {W w w' : World} {B : Nat} {P : EP} {s : ES} (h : Hid (EngI W B P s w)) (k : Below w.heap.size w w') : w'.cell? ⟨P.b, 7, none⟩ = some (.int .u64 (s.bs.hi : Int)) ∧ w'.cell? ⟨P.b, 8, none⟩ = some (.int .u64 (s.bs.lo : Int)) ∧ w'.cell? ⟨P.b, 9, none⟩ = some (.int .u64 (s.bs.bw : Int)) ∧ Hid (EngI W B P s w') :=
  have q := h.out.to k
  ⟨q.at_.e.cell rfl, q.at_.e.cell rfl, q.at_.e.cell rfl, q⟩
theorem ei_bs0 {W w : World} {B : Nat} {P : EP} {s : ES} (h : Hid (EngI W B P s w)) : w.cell? ⟨P.b, 7, none⟩ = some (.int .u64 (s.bs.hi : Int)) ∧ w.cell? ⟨P.b, 8, none⟩ = some (.int .u64 (s.bs.lo : Int)) ∧ w.cell? ⟨P.b, 9, none⟩ = some (.int .u64 (s.bs.bw : Int)) ∧ Hid (EngI W B P s w) :=
  ⟨h.out.at_.e.cell rfl, h.out.at_.e.cell rfl, h.out.at_.e.cell rfl, h⟩

theorem ei_sb {W w w' : World} {B : Nat} {P : EP} {s : ES} (h : Hid (EngI W B P s w)) (k : Below w.heap.size w w') : w'.cell? ⟨P.b, 13, none⟩ = some (.int .i64 s.st) ∧ w'.cell? ⟨P.b, 7, none⟩ = some (.int .u64 (s.bs.hi : Int)) ∧ w'.cell? ⟨P.b, 8, none⟩ = some (.int .u64 (s.bs.lo : Int)) ∧ w'.cell? ⟨P.b, 9, none⟩ = some (.int .u64 (s.bs.bw : Int)) ∧ Hid (EngI W B P s w') :=
  have q := h.out.to k
  ⟨q.at_.e.cell rfl, q.at_.e.cell rfl, q.at_.e.cell rfl, q.at_.e.cell rfl, q⟩
theorem ei_sb0 {W w : World} {B : Nat} {P : EP} {s : ES} (h : Hid (EngI W B P s w)) : w.cell? ⟨P.b, 13, none⟩ = some (.int .i64 s.st) ∧ w.cell? ⟨P.b, 7, none⟩ = some (.int .u64 (s.bs.hi : Int)) ∧ w.cell? ⟨P.b, 8, none⟩ = some (.int .u64 (s.bs.lo : Int)) ∧ w.cell? ⟨P.b, 9, none⟩ = some (.int .u64 (s.bs.bw : Int)) ∧ Hid (EngI W B P s w) :=
  ⟨h.out.at_.e.cell rfl, h.out.at_.e.cell rfl, h.out.at_.e.cell rfl, h.out.at_.e.cell rfl, h⟩

theorem ei_c {W w w' : World} {B : Nat} {P : EP} {s : ES} (h : Hid (EngI W B P s w)) (k : Below w.heap.size w w') : w'.cell? ⟨P.b, 0, none⟩ = some (.int .u64 (s.c 0 : Int)) ∧ w'.cell? ⟨P.b, 1, none⟩ = some (.int .u64 (s.c 1 : Int)) ∧ w'.cell? ⟨P.b, 2, none⟩ = some (.int .u64 (s.c 2 : Int)) ∧ w'.cell? ⟨P.b, 3, none⟩ = some (.int .u64 (s.c 3 : Int)) ∧ w'.cell? ⟨P.b, 4, none⟩ = some (.int .u64 (s.c 4 : Int)) ∧ w'.cell? ⟨P.b, 5, none⟩ = some (.int .u64 (s.c 5 : Int)) ∧ Hid (EngI W B P s w') :=
  have q := h.out.to k
  ⟨q.at_.e.cell rfl, q.at_.e.cell rfl, q.at_.e.cell rfl, q.at_.e.cell rfl, q.at_.e.cell rfl, q.at_.e.cell rfl, q⟩
theorem ei_c0 {W w : World} {B : Nat} {P : EP} {s : ES} (h : Hid (EngI W B P s w)) : w.cell? ⟨P.b, 0, none⟩ = some (.int .u64 (s.c 0 : Int)) ∧ w.cell? ⟨P.b, 1, none⟩ = some (.int .u64 (s.c 1 : Int)) ∧ w.cell? ⟨P.b, 2, none⟩ = some (.int .u64 (s.c 2 : Int)) ∧ w.cell? ⟨P.b, 3, none⟩ = some (.int .u64 (s.c 3 : Int)) ∧ w.cell? ⟨P.b, 4, none⟩ = some (.int .u64 (s.c 4 : Int)) ∧ w.cell? ⟨P.b, 5, none⟩ = some (.int .u64 (s.c 5 : Int)) ∧ Hid (EngI W B P s w) :=
  ⟨h.out.at_.e.cell rfl, h.out.at_.e.cell rfl, h.out.at_.e.cell rfl, h.out.at_.e.cell rfl, h.out.at_.e.cell rfl, h.out.at_.e.cell rfl, h⟩

theorem ei_st {W w w' : World} {B : Nat} {P : EP} {s : ES} (h : Hid (EngI W B P s w)) (k : Below w.heap.size w w') : w'.cell? ⟨P.b, 13, none⟩ = some (.int .i64 s.st) ∧ Hid (EngI W B P s w') :=
  have q := h.out.to k
  ⟨q.at_.e.cell rfl, q⟩
theorem ei_st0 {W w : World} {B : Nat} {P : EP} {s : ES} (h : Hid (EngI W B P s w)) : w.cell? ⟨P.b, 13, none⟩ = some (.int .i64 s.st) ∧ Hid (EngI W B P s w) :=
  ⟨h.out.at_.e.cell rfl, h⟩

theorem ei_e3 {W w w' : World} {B : Nat} {P : EP} {s : ES} (h : Hid (EngI W B P s w)) (k : Below w.heap.size w w') : w'.cell? ⟨P.b, 20, none⟩ = some (.int .u64 (s.ended : Int)) ∧ w'.cell? ⟨P.b, 3, none⟩ = some (.int .u64 (s.c 3 : Int)) ∧ Hid (EngI W B P s w') :=
  have q := h.out.to k
  ⟨q.at_.e.cell rfl, q.at_.e.cell rfl, q⟩
theorem ei_e30 {W w : World} {B : Nat} {P : EP} {s : ES} (h : Hid (EngI W B P s w)) : w.cell? ⟨P.b, 20, none⟩ = some (.int .u64 (s.ended : Int)) ∧ w.cell? ⟨P.b, 3, none⟩ = some (.int .u64 (s.c 3 : Int)) ∧ Hid (EngI W B P s w) :=
  ⟨h.out.at_.e.cell rfl, h.out.at_.e.cell rfl, h⟩

theorem conf_First (c : Setup) (w : World) (hc : ∀ i, c i ≤ 18446744073709551615) :
    Calls Tryd.prog 24 #[.agg (ccells c)] w fun e w' => e = .returned (.int .u64 (firstC c : Int)) ∧ Below w.heap.size w w' := by
  have HP : ∀ w', Calls Tryd.prog 44 #[.agg (ccells c), .int .u64 (c 1 : Int)] w' fun e w'' => e = .returned (.int .u64 (firstC c : Int)) ∧ Below w'.heap.size w' w'' := fun w' => conf_packets c (c 1) w' (hc 0) (hc 1)
  have HP := Lib.hid HP
  have G0 := Lib.hid ((Below.refl w.heap.size w).alloc (Nat.le_refl _) (.cells (ccells c) 24))
  clear hc
  generalize firstC c = q at *
  simp only [ccells] at HP G0 ⊢
  go_enter Tryd.func24, Tryd.ntmps24
  go_wp2_with fail
  refine (HP.out _).mono ?_
  rintro e w1 ⟨rfl, h1⟩
  have B1 := Lib.hid (bel_to G0.out h1 G0.out.size)
  clear h1 G0 HP
  go_wp2_with fail
  go_ret
  exact ⟨rfl, B1.out⟩

theorem conf_Least (c : Setup) (w : World) (hc : ∀ i, c i ≤ 18446744073709551615) :
    Calls Tryd.prog 38 #[.agg (ccells c)] w fun e w' => e = .returned (.int .u64 (leastC c : Int)) ∧ Below w.heap.size w w' := by
  have HP : ∀ w', Calls Tryd.prog 44 #[.agg (ccells c), .int .u64 4] w' fun e w'' => e = .returned (.int .u64 (leastC c : Int)) ∧ Below w'.heap.size w' w'' := fun w' => conf_packets c (4) w' (hc 0) (by omega)
  have HP := Lib.hid HP
  have G0 := Lib.hid ((Below.refl w.heap.size w).alloc (Nat.le_refl _) (.cells (ccells c) 24))
  clear hc
  generalize leastC c = q at *
  simp only [ccells] at HP G0 ⊢
  go_enter Tryd.func38, Tryd.ntmps38
  go_wp2_with fail
  refine (HP.out _).mono ?_
  rintro e w1 ⟨rfl, h1⟩
  have B1 := Lib.hid (bel_to G0.out h1 G0.out.size)
  clear h1 G0 HP
  go_wp2_with fail
  go_ret
  exact ⟨rfl, B1.out⟩

theorem en_Least {B : Nat} {P : EP} {s : ES} (w : World) (h : EngAt w B P s) :
    Calls Tryd.prog 13 #[.pointer (some ⟨P.b, 0, none⟩)] w fun e w' => e = .returned (.int .u64 (s.trip : Int)) ∧ Below w.heap.size w w' := by
  obtain ⟨g, _, hf⟩ := h.f
  have HB := Lib.hid (fl_Best P.a P.r g s.f w hf)
  clear hf
  have c10 := (h).e.cell (i := 10) (v := .pointer (some ⟨P.a, 0, none⟩)) rfl
  unfold ES.trip
  unfold bestV at HB
  clear h
  generalize s.f.best = x at *
  generalize s.f.some = o at *
  cases o with
  | true =>
    go_enter Tryd.func13, Tryd.ntmps13
    go_wp2_with fail
    refine (HB.out).mono ?_
    rintro e w1 ⟨rfl, h1⟩
    go_wp2_with fail
    go_ret
    exact ⟨rfl, h1⟩
  | false =>
    go_enter Tryd.func13, Tryd.ntmps13
    go_wp2_with fail
    refine (HB.out).mono ?_
    rintro e w1 ⟨rfl, h1⟩
    go_wp2_with fail
    go_ret
    exact ⟨rfl, h1⟩

set_option maxHeartbeats 400000 in
theorem en_Best {B k : Nat} {P : EP} {s : ES} (w : World) (h : EngAt w B P s) (ho : s.ok k) :
    Calls Tryd.prog 14 #[.pointer (some ⟨P.b, 0, none⟩)] w fun e w' => e = .returned (.int .u64 (s.rate : Int)) ∧ Below w.heap.size w w' := by
  have HY := Lib.hid (cy_Best P.y s.y w h.y)
  have HL := Lib.hid (fun w h => en_Least (B := B) (P := P) (s := s) w h)
  have HF := Lib.hid (fun w => conf_First s.c w ho.c)
  have HS := Lib.hid (fun w => share_b (firstC s.c) 1000000 s.trip w (firstC_le _) (by omega) (ES.trip_le ho))
  have E0 := Lib.hid h
  have c11 := (h).e.cell (i := 11) (v := .pointer (some ⟨P.y, 0, none⟩)) rfl
  unfold ES.rate
  clear h ho
  simp only [ccells] at HF
  generalize Pl.shareS (firstC s.c) 1000000 s.trip = q at *
  generalize firstC s.c = f at *
  generalize s.trip = tr at *
  by_cases hy : s.y.best = 0
  · rw [if_pos hy]
    rw [hy] at HY
    clear hy
    go_enter Tryd.func14, Tryd.ntmps14
    go_wp2_with fail
    refine (HY.out).mono ?_
    rintro e w1 ⟨rfl, h1⟩
    have E1 := Lib.hid (E0.out.keep h1)
    have B1 := Lib.hid h1
    clear h1 HY E0 c11
    have q := ei_c0 (Lib.hid (EngI.start E1.out))
    go_split_ands
    go_wp2_with fail
    refine (HF.out _).mono ?_
    rintro e w2 ⟨rfl, h1⟩
    have E2 := Lib.hid (E1.out.keep h1)
    have B2 := Lib.hid (bel_to B1.out h1 B1.out.size)
    clear h1 HF B1
    go_wp2_with fail
    refine (HL.out _ E2.out).mono ?_
    rintro e w3 ⟨rfl, h1⟩
    have B3 := Lib.hid (bel_to B2.out h1 B2.out.size)
    clear h1 HL B2 E2 E1
    go_wp2_with fail
    refine (HS.out _).mono ?_
    rintro e w4 ⟨rfl, h1⟩
    have B4 := Lib.hid (bel_to B3.out h1 B3.out.size)
    clear h1 HS B3
    go_wp2_with fail
    go_ret
    exact ⟨rfl, B4.out⟩
  · rw [if_neg hy]
    have d0 : ((s.y.best : Int) == 0) = false := beq_eq_false_iff_ne.2 (by omega)
    generalize s.y.best = x at *
    clear hy
    go_enter Tryd.func14, Tryd.ntmps14
    go_wp2_with fail
    refine (HY.out).mono ?_
    rintro e w1 ⟨rfl, h1⟩
    have B1 := Lib.hid h1
    clear h1
    go_wp2_with fail
    go_ret
    exact ⟨rfl, B1.out⟩

theorem en_holds {B k : Nat} {P : EP} {s : ES} (w : World) (h : EngAt w B P s) (ho : s.ok k) :
    Calls Tryd.prog 55 #[.pointer (some ⟨P.b, 0, none⟩)] w fun e w' => e = .returned (.int .u64 (s.holds : Int)) ∧ Below w.heap.size w w' := by
  have HB := Lib.hid (fun w h => en_Best (B := B) (P := P) (s := s) w h ho)
  have HL := Lib.hid (fun w h => en_Least (B := B) (P := P) (s := s) w h)
  have HF := Lib.hid (fun w => conf_Flight s.rate s.trip w (ES.rate_le ho) (ES.trip_le ho))
  have I0 := Lib.hid (EngI.start h)
  unfold ES.holds
  clear h ho
  generalize Pl.overS s.rate s.trip 1000000 = q at *
  generalize s.rate = ra at *
  generalize s.trip = tr at *
  go_enter Tryd.func55, Tryd.ntmps55
  go_wp2_with fail
  refine (HB.out _ I0.out.at_).mono ?_
  rintro e w1 ⟨rfl, h1⟩
  have I1 := Lib.hid (I0.out.to h1)
  clear h1 I0 HB
  go_wp2_with fail
  refine (HL.out _ I1.out.at_).mono ?_
  rintro e w2 ⟨rfl, h1⟩
  have I2 := Lib.hid (I1.out.to h1)
  clear h1 I1 HL
  go_wp2_with fail
  refine (HF.out _).mono ?_
  rintro e w3 ⟨rfl, h1⟩
  have I3 := Lib.hid (I2.out.to h1)
  clear h1 I2 HF
  go_wp2_with fail
  go_ret
  exact ⟨rfl, I3.out.bel⟩

set_option maxHeartbeats 1000000 in
theorem en_uses {B k : Nat} {P : EP} {s : ES} (W : World) (h : EngAt W B P s) (ho : s.ok k) :
    Calls Tryd.prog 68 #[.pointer (some ⟨P.b, 0, none⟩)] W fun e w' => e = .returned (.int .u64 (s.uses : Int)) ∧ Below W.heap.size W w' := by
  have HB := Lib.hid (fun w h => en_Best (B := B) (P := P) (s := s) w h ho)
  have HL := Lib.hid (fun w h => en_Least (B := B) (P := P) (s := s) w h)
  have HI := Lib.hid (fun w => bd_Limit s.bs s.rate w)
  have HF := Lib.hid (fun w => conf_Flight (s.bs.limit s.rate) s.trip w (ES.limit_le ho) (ES.trip_le ho))
  have I0 := Lib.hid (EngI.start h).drew
  unfold ES.uses
  clear h ho
  generalize Pl.overS (s.bs.limit s.rate) s.trip 1000000 = q at *
  generalize s.bs.limit s.rate = li at *
  generalize s.rate = ra at *
  generalize s.trip = tr at *
  simp only [BS.cells] at HI
  go_enter Tryd.func68, Tryd.ntmps68
  go_wp2_with fail
  go_region_held3 (fun w' => w'.cell? ⟨P.b, 7, none⟩ = some (.int .u64 (s.bs.hi : Int)) ∧ w'.cell? ⟨P.b, 8, none⟩ = some (.int .u64 (s.bs.lo : Int)) ∧ w'.cell? ⟨P.b, 9, none⟩ = some (.int .u64 (s.bs.bw : Int)) ∧ Hid (EngI W B P s w'))
    (first | exact ei_bs0 I0 | exact ei_bs (by assumption) hb)
    (first
      | (go_at_call 14; go_split_ands; (with_reducible refine (HB.out _ (Hid.out (by assumption) : EngI W B P s _).at_).mono ?_); rintro e w' ⟨rfl, hb⟩)
      | (go_at_call 13; go_split_ands; (with_reducible refine (HL.out _ (Hid.out (by assumption) : EngI W B P s _).at_).mono ?_); rintro e w' ⟨rfl, hb⟩)
      | (go_at_call 37; go_split_ands; (with_reducible refine (HI.out _).mono ?_); rintro e w' ⟨rfl, hb⟩)
      | (go_at_call 80; go_split_ands; (with_reducible refine (HF.out _).mono ?_); rintro e w' ⟨rfl, hb⟩))
  go_split_ands
  have hq := (Hid.out ‹Hid (EngI W B P s w')›).bel
  go_wp2
  go_ret
  exact ⟨rfl, hq⟩

set_option maxHeartbeats 1000000 in
theorem en_Pace {B k : Nat} {P : EP} {s : ES} (W : World) (h : EngAt W B P s) (ho : s.ok k) :
    Calls Tryd.prog 10 #[.pointer (some ⟨P.b, 0, none⟩)] W fun e w' => e = .returned (.int .u64 (s.pace : Int)) ∧ Below W.heap.size W w' := by
  have HB := Lib.hid (fun w h => en_Best (B := B) (P := P) (s := s) w h ho)
  have HI := Lib.hid (fun w => bd_Limit s.bs s.rate w)
  have HG := Lib.hid (fun w h => ga_Pace s.st (s.bs.limit s.rate) (ES.limit_le ho) w h)
  have HL := Lib.hid (fun w => conf_Least s.c w ho.c)
  have I0 := Lib.hid (EngI.start h).drew
  have HM : Hid (min (max (paceG (stG s.st) (s.bs.limit s.rate) : Int) (leastC s.c : Int)) 1099511627776 = (s.pace : Int)) := Lib.hid (by unfold ES.pace; omega)
  clear h ho
  generalize paceG (stG s.st) (s.bs.limit s.rate) = pa at *
  generalize s.bs.limit s.rate = li at *
  generalize s.rate = ra at *
  generalize leastC s.c = le at *
  generalize s.pace = q at *
  simp only [BS.cells] at HI
  simp only [ccells] at HL
  go_enter Tryd.func10, Tryd.ntmps10
  go_wp2_with fail
  go_region_held3 (fun w' => w'.cell? ⟨P.b, 13, none⟩ = some (.int .i64 s.st) ∧ w'.cell? ⟨P.b, 7, none⟩ = some (.int .u64 (s.bs.hi : Int)) ∧ w'.cell? ⟨P.b, 8, none⟩ = some (.int .u64 (s.bs.lo : Int)) ∧ w'.cell? ⟨P.b, 9, none⟩ = some (.int .u64 (s.bs.bw : Int)) ∧ Hid (EngI W B P s w'))
    (first | exact ei_sb0 I0 | exact ei_sb (by assumption) hb)
    (first
      | (go_at_call 14; go_split_ands; (with_reducible refine (HB.out _ (Hid.out (by assumption) : EngI W B P s _).at_).mono ?_); rintro e w' ⟨rfl, hb⟩)
      | (go_at_call 37; go_split_ands; (with_reducible refine (HI.out _).mono ?_); rintro e w' ⟨rfl, hb⟩)
      | (go_at_call 36; go_split_ands; (with_reducible refine (HG.out _ (Hid.out (by assumption) : EngI W B P s _).at_.gl).mono ?_); rintro e w' ⟨rfl, hb⟩))
  go_split_ands
  have I1 := Lib.hid (Hid.out ‹Hid (EngI W B P s w')›)
  have q := ei_c0 I1
  go_split_ands
  go_wp2_with fail
  refine (HL.out _).mono ?_
  rintro e w2 ⟨rfl, h1⟩
  have I2 := Lib.hid (I1.out.to h1)
  clear h1
  go_wp2_with fail
  all_goals
    go_ret
    refine ⟨ret_u64 ?_, I2.out.bel⟩
    first | exact HM.out | (rw [← HM.out]; omega)

set_option maxHeartbeats 1000000 in
theorem en_Quantum {B k : Nat} {P : EP} {s : ES} (W : World) (h : EngAt W B P s) (ho : s.ok k) :
    Calls Tryd.prog 11 #[.pointer (some ⟨P.b, 0, none⟩)] W fun e w' => e = .returned (.int .u64 (s.quant : Int)) ∧ Below W.heap.size W w' := by
  have HB := Lib.hid (fun w h => en_Pace (B := B) (P := P) (s := s) w h ho)
  have HQ := Lib.hid (fun w => conf_Quantum s.c s.pace w (ho.c 0) (Nat.le_trans (ES.pace_le s) (by omega)))
  have I0 := Lib.hid (EngI.start h).drew
  unfold ES.quant
  clear h ho
  generalize quantumC (s.c 0) s.pace = q at *
  generalize s.pace = pa at *
  simp only [ccells] at HQ
  go_enter Tryd.func11, Tryd.ntmps11
  go_wp2_with fail
  go_region_held3 (fun w' => w'.cell? ⟨P.b, 0, none⟩ = some (.int .u64 (s.c 0 : Int)) ∧ w'.cell? ⟨P.b, 1, none⟩ = some (.int .u64 (s.c 1 : Int)) ∧ w'.cell? ⟨P.b, 2, none⟩ = some (.int .u64 (s.c 2 : Int)) ∧ w'.cell? ⟨P.b, 3, none⟩ = some (.int .u64 (s.c 3 : Int)) ∧ w'.cell? ⟨P.b, 4, none⟩ = some (.int .u64 (s.c 4 : Int)) ∧ w'.cell? ⟨P.b, 5, none⟩ = some (.int .u64 (s.c 5 : Int)) ∧ Hid (EngI W B P s w'))
    (first | exact ei_c0 I0 | exact ei_c (by assumption) hb)
    (first
      | (go_at_call 10; go_split_ands; (with_reducible refine (HB.out _ (Hid.out (by assumption) : EngI W B P s _).at_).mono ?_); rintro e w' ⟨rfl, hb⟩)
      | (go_at_call 39; go_split_ands; (with_reducible refine (HQ.out _).mono ?_); rintro e w' ⟨rfl, hb⟩))
  go_split_ands
  have hq := (Hid.out ‹Hid (EngI W B P s w')›).bel
  go_wp2
  go_ret
  exact ⟨rfl, hq⟩

theorem en_State {B : Nat} {P : EP} {s : ES} (w : World) (h : EngAt w B P s) :
    Calls Tryd.prog 12 #[.pointer (some ⟨P.b, 0, none⟩)] w fun e w' => e = .returned (.int .i64 s.st) ∧ Below w.heap.size w w' := by
  have c13 := (h).e.cell (i := 13) (v := .int .i64 s.st) rfl
  go_enter Tryd.func12, Tryd.ntmps12
  go_wp2
  go_ret
  exact ⟨rfl, Below.refl _ _⟩
theorem en_Cwnd {B : Nat} {P : EP} {s : ES} (w : World) (h : EngAt w B P s) :
    Calls Tryd.prog 9 #[.pointer (some ⟨P.b, 0, none⟩)] w fun e w' => e = .returned (.int .u64 (s.cwnd : Int)) ∧ Below w.heap.size w w' := by
  have c18 := (h).e.cell (i := 18) (v := .int .u64 (s.cwnd : Int)) rfl
  go_enter Tryd.func9, Tryd.ntmps9
  go_wp2
  go_ret
  exact ⟨rfl, Below.refl _ _⟩

end Go.Proofs.YtpkbjfhicocogaaDoor

/- Small facts: numbers at hand for fix.Sub and fix.Add, wherever they lie; an event in memory. -/
set_option linter.unusedVariables false
namespace Go.Proofs.YtpkbjfhicocogaaDoor
open Go.RowKit Cf

theorem cell_dr {w : World} {p : Addr} {v : Value} (h : w.cell? p = some v) : w.drew.cell? p = some v := h
theorem al_dr (w : World) (o : Obj) : Below w.heap.size w (w.alloc o).drew := ((Below.refl _ _).alloc (Nat.le_refl _) o).trans ((Drawn.drew _).below _)
theorem bel_cell {V w : World} {p : Addr} {v : Value} (hb : Below V.heap.size V w) (h : V.cell? p = some v) : w.cell? p = some v := (hb.cell (World.block_lt_of_cell? V p h)).trans h
theorem nc1 (W : World) (x : Nat) (T : TypeId) : (W.alloc (.cells #[.int .u64 (x : Int)] T)).drew.cell? ⟨W.heap.size, 0, none⟩ = some (.int .u64 (x : Int)) := cell_dr (new_cell rfl rfl)
theorem nc1' (W : World) (x : Nat) (T : TypeId) : (W.alloc (.cells #[.int .u64 (x : Int)] T)).cell? ⟨W.heap.size, 0, none⟩ = some (.int .u64 (x : Int)) := new_cell rfl rfl
theorem al_be (w : World) (o : Obj) : Below w.heap.size w (w.alloc o) := (Below.refl _ _).alloc (Nat.le_refl _) o
theorem row1 {W : World} {b x : Nat} (h : W.cell? ⟨b, 0, none⟩ = some (.int .u64 (x : Int))) : Row W b 0 [x] := by
  intro i hi
  match i, hi with
  | 0, _ => exact h
/-- fix.Sub of one number, wherever it lies. -/
theorem sub_any (a x b : Nat) (ha : a ≤ 18446744073709551615) (hx : x ≤ 18446744073709551615) (W : World) (h : W.cell? ⟨b, 0, none⟩ = some (.int .u64 (x : Int))) :
    Calls Tryd.prog 50 #[.int .u64 (a : Int), .slice (some ⟨b, 0, none⟩) 1 1] W fun e w' => e = .returned (.int .u64 ((Pl.subS a x : Nat) : Int)) ∧ W = w' := by
  have := fix_Sub (a : Int) b 0 1 [x] W (by omega) (by omega) (by simp) (by simp; exact hx) (row1 h)
  simpa [Pl.lessS, Pl.subS] using this

theorem row2 {W : World} {b x y : Nat} (h0 : W.cell? ⟨b, 0, none⟩ = some (.int .u64 (x : Int))) (h1 : W.cell? ⟨b, 1, none⟩ = some (.int .u64 (y : Int))) : Row W b 0 [x, y] := by
  intro i hi
  match i, hi with
  | 0, _ => exact h0
  | 1, _ => exact h1
/-- fix.Add of two numbers, wherever they lie. -/
theorem add_any (x y : Nat) (hx : x ≤ 18446744073709551615) (hy : y ≤ 18446744073709551615) (b : Nat) (W : World) (h0 : W.cell? ⟨b, 0, none⟩ = some (.int .u64 (x : Int))) (h1 : W.cell? ⟨b, 1, none⟩ = some (.int .u64 (y : Int))) :
    Calls Tryd.prog 45 #[.slice (some ⟨b, 0, none⟩) 2 2] W fun e w' => e = .returned (.int .u64 ((Pl.addS x y : Nat) : Int)) ∧ Below W.heap.size W w' := by
  have := fix_Add b 0 2 [x, y] W (by simp) (by simp; omega) (row2 h0 h1)
  have e : Pl.sumS [x, y] = Pl.addS x y := by simp [Pl.sumS, Pl.addS]
  rw [e] at this
  exact this.mono fun e w' q => ⟨q.1, q.2 ▸ Below.refl _ _⟩
theorem nc2 (W : World) (x y : Nat) (T : TypeId) : (W.alloc (.cells #[.int .u64 (x : Int), .int .u64 (y : Int)] T)).cell? ⟨W.heap.size, 0, none⟩ = some (.int .u64 (x : Int)) ∧ (W.alloc (.cells #[.int .u64 (x : Int), .int .u64 (y : Int)] T)).cell? ⟨W.heap.size, 1, none⟩ = some (.int .u64 (y : Int)) := ⟨new_cell rfl rfl, new_cell rfl rfl⟩

def EvS.cells (x : EvS) : Array Value := #[.int .u64 (x.now : Int), .int .u64 (x.sd : Int), .int .u64 (x.si : Int), .int .u64 (x.sr : Int), .int .u64 (x.rt : Int), .bool x.sl, .bool x.sm, .int .u64 (x.dl : Int), .int .u64 (x.ac : Int), .int .u64 (x.lo : Int), .int .u64 (x.fl : Int)]
def EvS.val (x : EvS) : Value := .agg x.cells
end Go.Proofs.YtpkbjfhicocogaaDoor

/- Contracts of package bbr over this translation: whether the least round trip is too old; the signal. -/
set_option linter.unusedVariables false
namespace Go.Proofs.YtpkbjfhicocogaaDoor
open Go.RowKit Cf

theorem quo2 (c : Nat) (hc : c ≤ 18446744073709551615) : IntKind.u64.wrap ((c : Int) / 2) = ((c / 2 : Nat) : Int) := by rw [IntKind.wrap_u64]; omega
set_option maxHeartbeats 1000000 in
theorem en_stale {B k : Nat} {P : EP} {s : ES} (now : Nat) (hn : now ≤ 18446744073709551615) (W : World) (h : EngAt W B P s) (ho : s.ok k) :
    Calls Tryd.prog 63 #[.pointer (some ⟨P.b, 0, none⟩), .int .u64 (now : Int)] W fun e w' => e = .returned (.bool (s.stale now)) ∧ Below W.heap.size W w' := by
  obtain ⟨g, _, hf⟩ := h.f
  have HB := Lib.hid (fl_Best P.a P.r g s.f W hf)
  clear hf
  have c10 := h.e.cell (i := 10) (v := .pointer (some ⟨P.a, 0, none⟩)) rfl
  have bt := FS.best_t ho.f
  have be := ho.ended
  have bc := ho.c 3
  have HS := Lib.hid (fun b w hw => sub_any now (max s.f.best.t s.ended) b hn (by omega) w hw)
  have I0 := Lib.hid (EngI.start h)
  have hm : max (s.f.best.t : Int) (s.ended : Int) = ((max s.f.best.t s.ended : Nat) : Int) := by omega
  have hq := quo2 (s.c 3) bc
  unfold ES.stale
  unfold bestV at HB
  clear h ho bt be bc hn
  generalize Pl.subS now (max s.f.best.t s.ended) = q at *
  generalize max s.f.best.t s.ended = m at *
  generalize s.f.best = x at *
  generalize s.f.some = o at *
  cases o with
  | false =>
    go_enter Tryd.func63, Tryd.ntmps63
    go_wp2_with fail
    refine (HB.out).mono ?_
    rintro e w1 ⟨rfl, h1⟩
    have I1 := Lib.hid (I0.out.to h1)
    clear h1 I0 HB c10
    go_wp2_with fail
    go_region
    go_wp2
    go_ret
    exact ⟨rfl, I1.out.drew.bel⟩
  | true =>
    go_enter Tryd.func63, Tryd.ntmps63
    go_wp2_with fail
    refine (HB.out).mono ?_
    rintro e w1 ⟨rfl, h1⟩
    have I1 := Lib.hid (I0.out.to h1)
    clear h1 I0 HB c10
    go_wp2_with fail
    have I2 := Lib.hid I1.out.drew
    go_region_held3 (fun w' => w'.cell? ⟨P.b, 20, none⟩ = some (.int .u64 (s.ended : Int)) ∧ w'.cell? ⟨P.b, 3, none⟩ = some (.int .u64 (s.c 3 : Int)) ∧ Hid (EngI W B P s w'))
      (first | exact ei_e30 I2 | exact ei_e3 (by assumption) (al_dr _ _) | exact ei_e3 (by assumption) hb)
      (first
        | (go_at_call 50; go_split_ands; (refine (HS.out _ _ (by first | exact cell_dr (new_cell rfl rfl) | exact new_cell rfl rfl)).mono ?_); rintro e w' ⟨rfl, rfl⟩))
    all_goals
      have hd : decide ((s.c 3 : Int) / 2 < (q : Int)) = decide (s.c 3 / 2 < q) := decide_eq_decide.2 (by omega)
      have HD := Lib.hid hd
      clear hd hq hm
      go_wp2
      go_ret
      exact ⟨by rw [HD.out]; rfl, (Hid.out (by assumption) : EngI W B P s _).bel⟩

/-- What holds while a signal is made. -/
structure SigI (W : World) (B : Nat) (P : EP) (s : ES) (x : EvS) (w : World) : Prop where
  at0 : EngAt W B P s
  bel : Below W.heap.size W w
  ev : Blk w W.heap.size 36 x.cells
  re : ∃ cs, cs.size = 10 ∧ Blk w (W.heap.size + 1) 64 cs
theorem SigI.at_ {W w : World} {B : Nat} {P : EP} {s : ES} {x : EvS} (h : SigI W B P s x w) : EngAt w B P s := h.at0.keep h.bel
theorem SigI.to {W w w' : World} {B : Nat} {P : EP} {s : ES} {x : EvS} (h : SigI W B P s x w) (k : Below w.heap.size w w') : SigI W B P s x w' :=
  ⟨h.at0, bel_to h.bel k h.bel.size, h.ev.keep k, by obtain ⟨cs, a, b⟩ := h.re; exact ⟨cs, a, b.keep k⟩⟩
theorem SigI.set {W w : World} {B : Nat} {P : EP} {s : ES} {x : EvS} (h : SigI W B P s x w) (i : Nat) (u : Value) : SigI W B P s x (w.setCell ⟨W.heap.size + 1, i, none⟩ u) :=
  ⟨h.at0, h.bel.setCell (p := ⟨W.heap.size + 1, i, none⟩) (Nat.le_succ _) u, h.ev.set_other i u (by omega), by obtain ⟨cs, a, b⟩ := h.re; exact ⟨_, by simpa using a, b.set i u⟩⟩
theorem sig_k {W w w' : World} {B : Nat} {P : EP} {s : ES} {x : EvS} (h : Hid (SigI W B P s x w)) (k : Below w.heap.size w w') : Hid (SigI W B P s x w') := h.out.to k
theorem sig_r {W : World} {B : Nat} {P : EP} {s : ES} {x : EvS} : (∀ w, Hid (SigI W B P s x w) → w.cell? ⟨W.heap.size, 0, none⟩ = some (.int .u64 (x.now : Int))) ∧ (∀ w, Hid (SigI W B P s x w) → w.cell? ⟨W.heap.size, 10, none⟩ = some (.int .u64 (x.fl : Int))) ∧ (∀ w, Hid (SigI W B P s x w) → w.cell? ⟨P.b, 6, none⟩ = some (.pointer (some ⟨P.p, 0, none⟩))) ∧ (∀ w, Hid (SigI W B P s x w) → w.cell? ⟨P.b, 7, none⟩ = some (.int .u64 (s.bs.hi : Int))) ∧ (∀ w, Hid (SigI W B P s x w) → w.cell? ⟨P.b, 8, none⟩ = some (.int .u64 (s.bs.lo : Int))) ∧ (∀ w, Hid (SigI W B P s x w) → w.cell? ⟨P.b, 9, none⟩ = some (.int .u64 (s.bs.bw : Int))) ∧ (∀ w, Hid (SigI W B P s x w) → w.cell? ⟨P.b, 15, none⟩ = some (.int .u64 (s.rounds : Int))) ∧ (∀ w, Hid (SigI W B P s x w) → w.cell? ⟨P.b, 14, none⟩ = some (.int .u64 (s.began : Int))) ∧ (∀ w, Hid (SigI W B P s x w) → w.cell? ⟨P.b, 13, none⟩ = some (.int .i64 s.st)) ∧ (∀ w, Hid (SigI W B P s x w) → w.cell? ⟨P.b, 11, none⟩ = some (.pointer (some ⟨P.y, 0, none⟩))) ∧ (∀ w, Hid (SigI W B P s x w) → w.cell? ⟨P.b, 4, none⟩ = some (.int .u64 (s.c 4 : Int))) :=
  ⟨fun w q => q.out.ev.cell rfl, fun w q => q.out.ev.cell rfl, fun w q => q.out.at_.e.cell rfl, fun w q => q.out.at_.e.cell rfl, fun w q => q.out.at_.e.cell rfl, fun w q => q.out.at_.e.cell rfl, fun w q => q.out.at_.e.cell rfl, fun w q => q.out.at_.e.cell rfl, fun w q => q.out.at_.e.cell rfl, fun w q => q.out.at_.e.cell rfl, fun w q => q.out.at_.e.cell rfl⟩
theorem nc3 (W : World) (b x : Nat) (T : TypeId) (hb : b = W.heap.size) : (W.alloc (.cells #[.int .u64 (x : Int)] T)).cell? ⟨b, 0, none⟩ = some (.int .u64 (x : Int)) := by subst hb; exact new_cell rfl rfl
theorem Blk.row {w : World} {g : Nat} {T : TypeId} {old : Array Value} (h : Blk w g T old) (cs : Array Value) : Blk (w.setRow g cs) g T cs := setRow_heap w g old cs T (0, 0) h
theorem Blk.row_other {w : World} {b g : Nat} {T : TypeId} {cs : Array Value} (h : Blk w b T cs) (hne : b ≠ g) (ds : Array Value) : Blk (w.setRow g ds) b T cs := (setRow_other w g b ds hne).trans h
theorem sig_row {W w : World} {B : Nat} {P : EP} {s : ES} {x : EvS} (h : Hid (SigI W B P s x w)) (cs : Array Value) (hc : cs.size = 10) : Hid (SigI W B P s x (w.setRow (W.heap.size + 1) cs)) :=
  Lib.hid ⟨h.out.at0, below_setRow h.out.bel (Nat.le_succ _) cs, h.out.ev.row_other (by omega) cs, by obtain ⟨ds, _, q⟩ := h.out.re; exact ⟨cs, hc, q.row cs⟩⟩

set_option maxRecDepth 100000 in
set_option maxHeartbeats 4000000 in
theorem en_signal {B k : Nat} {P : EP} {s : ES} (x : EvS) (hx : x.ok) (ov lo : Bool) (W : World) (h : EngAt W B P s) (ho : s.ok k) :
    Calls Tryd.prog 33 #[.pointer (some ⟨P.b, 0, none⟩), x.val, .bool ov, .bool lo] W fun e w' => e = .returned (.agg (s.sig x ov lo).cells) ∧ Below W.heap.size W w' := by
  have HFu : Hid (∀ w, EngAt w B P s → Calls Tryd.prog 52 #[.pointer (some ⟨P.p, 0, none⟩)] w fun e w' => e = .returned (.bool s.p.full) ∧ Below w.heap.size w w') := Lib.hid (fun w hw => (pi_Full P.p s.p w hw.p).mono fun e w' q => ⟨q.1, q.2 ▸ Below.refl _ _⟩)
  have HSt := Lib.hid (fun w hw => en_stale (B := B) (P := P) (s := s) x.now hx.now w hw ho)
  have HHo := Lib.hid (fun w hw => en_holds (B := B) (P := P) (s := s) w hw ho)
  have HRo := Lib.hid (fun w (_ : EngAt w B P s) => bd_Room s.bs w ho.bs)
  have HSu : Hid (∀ b w, w.cell? ⟨b, 0, none⟩ = some (.int .u64 (s.began : Int)) → Calls Tryd.prog 50 #[.int .u64 (x.now : Int), .slice (some ⟨b, 0, none⟩) 1 1] w fun e w' => e = .returned (.int .u64 ((Pl.subS x.now s.began : Nat) : Int)) ∧ Below w.heap.size w w') := Lib.hid (fun b w hw => (sub_any x.now s.began b hx.now ho.began w hw).mono fun e w' q => ⟨q.1, q.2 ▸ Below.refl _ _⟩)
  have HCo : Hid (∀ w, EngAt w B P s → Calls Tryd.prog 66 #[.pointer (some ⟨P.y, 0, none⟩)] w fun e w' => e = .returned (.int .u64 (s.y.n : Int)) ∧ Below w.heap.size w w') := Lib.hid (fun w hw => (cy_Count P.y s.y w hw.y).mono fun e w' q => ⟨q.1, q.2 ▸ Below.refl _ _⟩)
  have HWa : Hid (∀ w, EngAt w B P s → Calls Tryd.prog 65 #[.int .i64 s.st, .int .u64 (s.y.n : Int), .int .u64 (s.c 4 : Int)] w fun e w' => e = .returned (.int .u64 ((waitS s.st s.y.n (s.c 4) : Nat) : Int)) ∧ Below w.heap.size w w') := Lib.hid (fun w _ => (mo_Wait s.st s.y.n (s.c 4) w ho.yn).mono fun e w' q => ⟨q.1, q.2 ▸ Below.refl _ _⟩)
  have I0 : Hid (SigI W B P s x ((W.alloc (.cells x.cells 36)).alloc (.cells #[.bool false, .bool false, .bool false, .bool false, .int .u64 0, .int .u64 0, .int .u64 0, .int .u64 0, .int .u64 0, .int .u64 0] 64)).drew) := Lib.hid
    ((show SigI W B P s x ((W.alloc (.cells x.cells 36)).alloc (.cells #[.bool false, .bool false, .bool false, .bool false, .int .u64 0, .int .u64 0, .int .u64 0, .int .u64 0, .int .u64 0, .int .u64 0] 64)) from
      ⟨h, ((Below.refl _ _).alloc (Nat.le_refl _) _).alloc (by simp) _, (Blk.new W _ _).alloc _, ⟨_, rfl, Blk.new1 W _ _ _⟩⟩).to ((Drawn.drew _).below _))
  have HT : Hid ((s.sig x ov lo).cells = #[.bool s.p.full, .bool ov, .bool lo, .bool (s.stale x.now), .int .u64 (x.fl : Int), .int .u64 (s.holds : Int), .int .u64 (s.bs.room : Int), .int .u64 (s.rounds : Int), .int .u64 ((Pl.subS x.now s.began : Nat) : Int), .int .u64 ((waitS s.st s.y.n (s.c 4) : Nat) : Int)]) := Lib.hid rfl
  clear h ho hx
  unfold EvS.cells at I0
  unfold EvS.val EvS.cells
  simp only [BS.cells] at HRo
  generalize waitS s.st s.y.n (s.c 4) = d9 at *
  generalize Pl.subS x.now s.began = d8 at *
  generalize s.bs.room = d6 at *
  generalize s.holds = d5 at *
  generalize s.stale x.now = d3 at *
  generalize s.p.full = d0 at *
  go_enter Tryd.func33, Tryd.ntmps33
  obtain ⟨rr0, rr1, rr2, rr3, rr4, rr5, rr6, rr7, rr8, rr9, rr10⟩ := sig_r (W := W) (B := B) (P := P) (s := s) (x := x)
  go_wp2_with fail
  refine wp_region_noPanic ?_

  refine wp_region_held_drew (S := (fun w' => Hid (SigI W B P s x w'))) (by kernel_rfl) I0 (fun hHeld => ?_)
  simp only [List.size_toArray, List.length_cons, List.length_nil, Nat.reduceAdd, Array.replicate_succ, Array.replicate_zero, List.push_toArray, List.nil_append, List.cons_append]
  refine wpAnyH_take (i := 0) (oi := ⟨some 9, _, _, _, _, _⟩) (v := ?v1) rfl (by kernel_rfl) (by kernel_rfl) (by kernel_rfl) (fun _ _ _ h => h) (Or.inl ⟨by rfl, ?y1⟩) (by assumption) ?r1
  case y1 => intro w hSw; clear hSw; go_simp; (try with_reducible rfl)
  simp only [Act.put, List.setIfInBounds_toArray, List.set_cons_zero, List.set_cons_succ]
  refine wpAnyH_take (i := 1) (oi := ⟨some 10, _, _, _, _, _⟩) (v := ?v2) rfl (by kernel_rfl) (by kernel_rfl) (by kernel_rfl) (fun _ _ _ h => h) (Or.inl ⟨by rfl, ?y2⟩) (by assumption) ?r2
  case y2 => intro w hSw; clear hSw; go_simp; (try with_reducible rfl)
  simp only [Act.put, List.setIfInBounds_toArray, List.set_cons_zero, List.set_cons_succ]
  refine wpAnyH_take (i := 2) (oi := ⟨some 11, _, _, _, _, _⟩) (v := ?v3) rfl (by kernel_rfl) (by kernel_rfl) (by kernel_rfl) (fun _ _ _ h => h) (Or.inl ⟨by rfl, ?y3⟩) (by assumption) ?r3
  case y3 => intro w hSw; clear hSw; go_simp; (try with_reducible rfl)
  simp only [Act.put, List.setIfInBounds_toArray, List.set_cons_zero, List.set_cons_succ]
  refine wpAnyH_take (i := 3) (oi := ⟨some 12, _, _, _, _, _⟩) (v := ?v4) rfl (by kernel_rfl) (by kernel_rfl) (by kernel_rfl) (fun _ _ _ h => h) (Or.inl ⟨by rfl, ?y4⟩) (by assumption) ?r4
  case y4 => intro w hSw; skip; go_simp; (try with_reducible rfl)
  simp only [Act.put, List.setIfInBounds_toArray, List.set_cons_zero, List.set_cons_succ]
  refine wpAnyH_take (i := 5) (oi := ⟨some 14, _, _, _, _, _⟩) (v := ?v5) rfl (by kernel_rfl) (by kernel_rfl) (by kernel_rfl) (fun _ _ _ h => h) (Or.inl ⟨by rfl, ?y5⟩) (by assumption) ?r5
  case y5 => intro w hSw; clear hSw; go_simp; (try with_reducible rfl)
  simp only [Act.put, List.setIfInBounds_toArray, List.set_cons_zero, List.set_cons_succ]
  refine wpAnyH_take (i := 6) (oi := ⟨some 15, _, _, _, _, _⟩) (v := ?v6) rfl (by kernel_rfl) (by kernel_rfl) (by kernel_rfl) (fun _ _ _ h => h) (Or.inl ⟨by rfl, ?y6⟩) (by assumption) ?r6
  case y6 => intro w hSw; clear hSw; go_simp; (try with_reducible rfl)
  simp only [Act.put, List.setIfInBounds_toArray, List.set_cons_zero, List.set_cons_succ]
  refine wpAnyH_take (i := 7) (oi := ⟨some 16, _, _, _, _, _⟩) (v := ?v7) rfl (by kernel_rfl) (by kernel_rfl) (by kernel_rfl) (fun _ _ _ h => h) (Or.inl ⟨by rfl, ?y7⟩) (by assumption) ?r7
  case y7 => intro w hSw; clear hSw; go_simp; (try with_reducible rfl)
  simp only [Act.put, List.setIfInBounds_toArray, List.set_cons_zero, List.set_cons_succ]
  refine wpAnyH_take (i := 8) (oi := ⟨some 17, _, _, _, _, _⟩) (v := ?v8) rfl (by kernel_rfl) (by kernel_rfl) (by kernel_rfl) (fun _ _ _ h => h) (Or.inl ⟨by rfl, ?y8⟩) (by assumption) ?r8
  case y8 => intro w hSw; clear hSw; go_simp; (try with_reducible rfl)
  simp only [Act.put, List.setIfInBounds_toArray, List.set_cons_zero, List.set_cons_succ]
  refine wpAnyH_take (i := 9) (oi := ⟨some 18, _, _, _, _, _⟩) (v := ?v9) rfl (by kernel_rfl) (by kernel_rfl) (by kernel_rfl) (fun _ _ _ h => h) (Or.inl ⟨by rfl, ?y9⟩) (by assumption) ?r9
  case y9 => intro w hSw; skip; go_simp; (try with_reducible rfl)
  simp only [Act.put, List.setIfInBounds_toArray, List.set_cons_zero, List.set_cons_succ]
  refine wpAnyH_take (i := 11) (oi := ⟨some 20, _, _, _, _, _⟩) (v := ?v10) rfl (by kernel_rfl) (by kernel_rfl) (by kernel_rfl) (fun _ _ _ h => h) (Or.inl ⟨by rfl, ?y10⟩) (by assumption) ?r10
  case y10 => intro w hSw; clear hSw; go_simp; (try with_reducible rfl)
  simp only [Act.put, List.setIfInBounds_toArray, List.set_cons_zero, List.set_cons_succ]
  refine wpAnyH_take (i := 12) (oi := ⟨some 21, _, _, _, _, _⟩) (v := ?v11) rfl (by kernel_rfl) (by kernel_rfl) (by kernel_rfl) (fun _ _ _ h => h) (Or.inl ⟨by rfl, ?y11⟩) (by assumption) ?r11
  case y11 => intro w hSw; skip; go_simp; (try with_reducible rfl)
  simp only [Act.put, List.setIfInBounds_toArray, List.set_cons_zero, List.set_cons_succ]
  refine wpAnyH_take (i := 13) (oi := ⟨some 22, _, _, _, _, _⟩) (v := ?v12) rfl (by kernel_rfl) (by kernel_rfl) (by kernel_rfl) (fun _ _ _ h => h) (Or.inl ⟨by rfl, ?y12⟩) (by assumption) ?r12
  case y12 => intro w hSw; clear hSw; go_simp; (try with_reducible rfl)
  simp only [Act.put, List.setIfInBounds_toArray, List.set_cons_zero, List.set_cons_succ]
  refine wpAnyH_take (i := 15) (oi := ⟨some 24, _, _, _, _, _⟩) (v := ?v13) rfl (by kernel_rfl) (by kernel_rfl) (by kernel_rfl) (fun _ _ _ h => h) (Or.inl ⟨by rfl, ?y13⟩) (by assumption) ?r13
  case y13 => intro w hSw; clear hSw; go_simp; (try with_reducible rfl)
  simp only [Act.put, List.setIfInBounds_toArray, List.set_cons_zero, List.set_cons_succ]
  refine wpAnyH_take (i := 16) (oi := ⟨some 25, _, _, _, _, _⟩) (v := ?v14) rfl (by kernel_rfl) (by kernel_rfl) (by kernel_rfl) (fun _ _ _ h => h) (Or.inl ⟨by rfl, ?y14⟩) (by assumption) ?r14
  case y14 => intro w hSw; clear hSw; go_simp; (try with_reducible rfl)
  simp only [Act.put, List.setIfInBounds_toArray, List.set_cons_zero, List.set_cons_succ]
  refine wpAnyH_take (i := 17) (oi := ⟨some 26, _, _, _, _, _⟩) (v := ?v15) rfl (by kernel_rfl) (by kernel_rfl) (by kernel_rfl) (fun _ _ _ h => h) (Or.inl ⟨by rfl, ?y15⟩) (by assumption) ?r15
  case y15 => intro w hSw; clear hSw; go_simp; (try with_reducible rfl)
  simp only [Act.put, List.setIfInBounds_toArray, List.set_cons_zero, List.set_cons_succ]
  refine wpAnyH_take (i := 18) (oi := ⟨some 27, _, _, _, _, _⟩) (v := ?v16) rfl (by kernel_rfl) (by kernel_rfl) (by kernel_rfl) (fun _ _ _ h => h) (Or.inl ⟨by rfl, ?y16⟩) (by assumption) ?r16
  case y16 => intro w hSw; skip; go_simp; (try with_reducible rfl)
  simp only [Act.put, List.setIfInBounds_toArray, List.set_cons_zero, List.set_cons_succ]
  refine wpAnyH_take (i := 20) (oi := ⟨some 29, _, _, _, _, _⟩) (v := ?v17) rfl (by kernel_rfl) (by kernel_rfl) (by kernel_rfl) (fun _ _ _ h => h) (Or.inl ⟨by rfl, ?y17⟩) (by assumption) ?r17
  case y17 => intro w hSw; clear hSw; go_simp; (try with_reducible rfl)
  simp only [Act.put, List.setIfInBounds_toArray, List.set_cons_zero, List.set_cons_succ]
  refine wpAnyH_take (i := 21) (oi := ⟨some 30, _, _, _, _, _⟩) (v := ?v18) rfl (by kernel_rfl) (by kernel_rfl) (by kernel_rfl) (fun _ _ _ h => h) (Or.inl ⟨by rfl, ?y18⟩) (by assumption) ?r18
  case y18 => intro w hSw; clear hSw; go_simp; (try with_reducible rfl)
  simp only [Act.put, List.setIfInBounds_toArray, List.set_cons_zero, List.set_cons_succ]
  refine wpAnyH_take (i := 22) (oi := ⟨some 31, _, _, _, _, _⟩) (v := ?v19) rfl (by kernel_rfl) (by kernel_rfl) (by kernel_rfl) (fun _ _ _ h => h) (Or.inl ⟨by rfl, ?y19⟩) (by assumption) ?r19
  case y19 => intro w hSw; clear hSw; go_simp; (try with_reducible rfl)
  simp only [Act.put, List.setIfInBounds_toArray, List.set_cons_zero, List.set_cons_succ]
  refine wpAnyH_take (i := 23) (oi := ⟨some 32, _, _, _, _, _⟩) (v := ?v20) rfl (by kernel_rfl) (by kernel_rfl) (by kernel_rfl) (fun _ _ _ h => h) (Or.inl ⟨by rfl, ?y20⟩) (by assumption) ?r20
  case y20 => intro w hSw; skip; go_simp; (try with_reducible rfl)
  simp only [Act.put, List.setIfInBounds_toArray, List.set_cons_zero, List.set_cons_succ]
  refine wpAnyH_take (i := 24) (oi := ⟨some 33, _, _, _, _, _⟩) (v := ?v21) rfl (by kernel_rfl) (by kernel_rfl) (by kernel_rfl) (fun _ _ _ h => h) (Or.inl ⟨by rfl, ?y21⟩) (by assumption) ?r21
  case y21 => intro w hSw; clear hSw; go_simp; (try with_reducible rfl)
  simp only [Act.put, List.setIfInBounds_toArray, List.set_cons_zero, List.set_cons_succ]
  refine wpAnyH_take (i := 25) (oi := ⟨some 34, _, _, _, _, _⟩) (v := ?v22) rfl (by kernel_rfl) (by kernel_rfl) (by kernel_rfl) (fun _ _ _ h => h) (Or.inl ⟨by rfl, ?y22⟩) (by assumption) ?r22
  case y22 => intro w hSw; skip; go_simp; (try with_reducible rfl)
  simp only [Act.put, List.setIfInBounds_toArray, List.set_cons_zero, List.set_cons_succ]
  refine wpAnyH_take (i := 26) (oi := ⟨some 35, _, _, _, _, _⟩) (v := ?v23) rfl (by kernel_rfl) (by kernel_rfl) (by kernel_rfl) (fun _ _ _ h => h) (Or.inl ⟨by rfl, ?y23⟩) (by assumption) ?r23
  case y23 => intro w hSw; clear hSw; go_simp; (try with_reducible rfl)
  simp only [Act.put, List.setIfInBounds_toArray, List.set_cons_zero, List.set_cons_succ]
  refine wpAnyH_take (i := 27) (oi := ⟨some 36, _, _, _, _, _⟩) (v := ?v24) rfl (by kernel_rfl) (by kernel_rfl) (by kernel_rfl) (fun _ _ _ h => h) (Or.inl ⟨by rfl, ?y24⟩) (by assumption) ?r24
  case y24 => intro w hSw; clear hSw; go_simp; (try with_reducible rfl)
  simp only [Act.put, List.setIfInBounds_toArray, List.set_cons_zero, List.set_cons_succ]
  refine wpAnyH_take (i := 28) (oi := ⟨some 37, _, _, _, _, _⟩) (v := ?v25) rfl (by kernel_rfl) (by kernel_rfl) (by kernel_rfl) (fun _ _ _ h => h) (Or.inl ⟨by rfl, ?y25⟩) (by assumption) ?r25
  case y25 => intro w hSw; clear hSw; go_simp; (try with_reducible rfl)
  simp only [Act.put, List.setIfInBounds_toArray, List.set_cons_zero, List.set_cons_succ]
  refine wpAnyH_take (i := 29) (oi := ⟨some 38, _, _, _, _, _⟩) (v := ?v26) rfl (by kernel_rfl) (by kernel_rfl) (by kernel_rfl) (fun _ _ _ h => h) (Or.inl ⟨by rfl, ?y26⟩) (by assumption) ?r26
  case y26 => intro w hSw; skip; go_simp; (try with_reducible rfl)
  simp only [Act.put, List.setIfInBounds_toArray, List.set_cons_zero, List.set_cons_succ]
  refine wpAnyH_take (i := 32) (oi := ⟨some 41, _, _, _, _, _⟩) (v := ?v27) rfl (by kernel_rfl) (by kernel_rfl) (by kernel_rfl) (fun _ _ _ h => h) (Or.inl ⟨by rfl, ?y27⟩) (by assumption) ?r27
  case y27 => intro w hSw; clear hSw; go_simp; (try with_reducible rfl)
  simp only [Act.put, List.setIfInBounds_toArray, List.set_cons_zero, List.set_cons_succ]
  refine wpAnyH_take (i := 33) (oi := ⟨some 42, _, _, _, _, _⟩) (v := ?v28) rfl (by kernel_rfl) (by kernel_rfl) (by kernel_rfl) (fun _ _ _ h => h) (Or.inl ⟨by rfl, ?y28⟩) (by assumption) ?r28
  case y28 => intro w hSw; clear hSw; go_simp; (try with_reducible rfl)
  simp only [Act.put, List.setIfInBounds_toArray, List.set_cons_zero, List.set_cons_succ]
  refine wpAnyH_take (i := 34) (oi := ⟨some 43, _, _, _, _, _⟩) (v := ?v29) rfl (by kernel_rfl) (by kernel_rfl) (by kernel_rfl) (fun _ _ _ h => h) (Or.inl ⟨by rfl, ?y29⟩) (by assumption) ?r29
  case y29 => intro w hSw; clear hSw; go_simp; (try with_reducible rfl)
  simp only [Act.put, List.setIfInBounds_toArray, List.set_cons_zero, List.set_cons_succ]
  refine wpAnyH_take (i := 35) (oi := ⟨some 44, _, _, _, _, _⟩) (v := ?v30) rfl (by kernel_rfl) (by kernel_rfl) (by kernel_rfl) (fun _ _ _ h => h) (Or.inl ⟨by rfl, ?y30⟩) (by assumption) ?r30
  case y30 => intro w hSw; skip; go_simp; (try with_reducible rfl)
  simp only [Act.put, List.setIfInBounds_toArray, List.set_cons_zero, List.set_cons_succ]
  refine wpAnyH_take (i := 36) (oi := ⟨some 45, _, _, _, _, _⟩) (v := ?v31) rfl (by kernel_rfl) (by kernel_rfl) (by kernel_rfl) (fun _ _ _ h => h) (Or.inl ⟨by rfl, ?y31⟩) (by assumption) ?r31
  case y31 => intro w hSw; clear hSw; go_simp; (try with_reducible rfl)
  simp only [Act.put, List.setIfInBounds_toArray, List.set_cons_zero, List.set_cons_succ]
  refine wpAnyH_take (i := 37) (oi := ⟨some 46, _, _, _, _, _⟩) (v := ?v32) rfl (by kernel_rfl) (by kernel_rfl) (by kernel_rfl) (fun _ _ _ h => h) (Or.inl ⟨by rfl, ?y32⟩) (by assumption) ?r32
  case y32 => intro w hSw; clear hSw; go_simp; (try with_reducible rfl)
  simp only [Act.put, List.setIfInBounds_toArray, List.set_cons_zero, List.set_cons_succ]
  refine wpAnyH_take (i := 38) (oi := ⟨some 47, _, _, _, _, _⟩) (v := ?v33) rfl (by kernel_rfl) (by kernel_rfl) (by kernel_rfl) (fun _ _ _ h => h) (Or.inl ⟨by rfl, ?y33⟩) (by assumption) ?r33
  case y33 => intro w hSw; clear hSw; go_simp; (try with_reducible rfl)
  simp only [Act.put, List.setIfInBounds_toArray, List.set_cons_zero, List.set_cons_succ]
  refine wpAnyH_take (i := 39) (oi := ⟨some 48, _, _, _, _, _⟩) (v := ?v34) rfl (by kernel_rfl) (by kernel_rfl) (by kernel_rfl) (fun _ _ _ h => h) (Or.inl ⟨by rfl, ?y34⟩) (by assumption) ?r34
  case y34 => intro w hSw; skip; go_simp; (try with_reducible rfl)
  simp only [Act.put, List.setIfInBounds_toArray, List.set_cons_zero, List.set_cons_succ]
  refine wpAnyH_take (i := 41) (oi := ⟨some 50, _, _, _, _, _⟩) (v := ?v35) rfl (by kernel_rfl) (by kernel_rfl) (by kernel_rfl) (fun _ _ _ h => h) (Or.inl ⟨by rfl, ?y35⟩) (by assumption) ?r35
  case y35 => intro w hSw; clear hSw; go_simp; (try with_reducible rfl)
  simp only [Act.put, List.setIfInBounds_toArray, List.set_cons_zero, List.set_cons_succ]
  refine wpAnyH_take (i := 42) (oi := ⟨some 51, _, _, _, _, _⟩) (v := ?v36) rfl (by kernel_rfl) (by kernel_rfl) (by kernel_rfl) (fun _ _ _ h => h) (Or.inl ⟨by rfl, ?y36⟩) (by assumption) ?r36
  case y36 => intro w hSw; clear hSw; go_simp; (try with_reducible rfl)
  simp only [Act.put, List.setIfInBounds_toArray, List.set_cons_zero, List.set_cons_succ]
  refine wpAnyH_take (i := 43) (oi := ⟨some 52, _, _, _, _, _⟩) (v := ?v37) rfl (by kernel_rfl) (by kernel_rfl) (by kernel_rfl) (fun _ _ _ h => h) (Or.inl ⟨by rfl, ?y37⟩) (by assumption) ?r37
  case y37 => intro w hSw; clear hSw; go_simp; (try with_reducible rfl)
  simp only [Act.put, List.setIfInBounds_toArray, List.set_cons_zero, List.set_cons_succ]
  refine wpAnyH_take (i := 44) (oi := ⟨some 53, _, _, _, _, _⟩) (v := ?v38) rfl (by kernel_rfl) (by kernel_rfl) (by kernel_rfl) (fun _ _ _ h => h) (Or.inl ⟨by rfl, ?y38⟩) (by assumption) ?r38
  case y38 => intro w hSw; clear hSw; go_simp; (try with_reducible rfl)
  simp only [Act.put, List.setIfInBounds_toArray, List.set_cons_zero, List.set_cons_succ]
  refine wpAnyH_take (i := 45) (oi := ⟨some 54, _, _, _, _, _⟩) (v := ?v39) rfl (by kernel_rfl) (by kernel_rfl) (by kernel_rfl) (fun _ _ _ h => h) (Or.inl ⟨by rfl, ?y39⟩) (by assumption) ?r39
  case y39 => intro w hSw; skip; go_simp; (try with_reducible rfl)
  simp only [Act.put, List.setIfInBounds_toArray, List.set_cons_zero, List.set_cons_succ]
  refine wpAnyH_ready (rs := [4, 30]) (by kernel_rfl) (by simp) ?_
  refine AllReadyH.cons (o := ⟨some 13, _, _, _, _, _⟩) rfl (fun K hK => ?_) ?_
  · go_simp
    refine (HFu.out _ hHeld.out.at_).mono ?_
    rintro e w1 ⟨rfl, hb⟩
    (first | (with_reducible have cc := bel_cell hb (nc1 _ s.began _)) | (with_reducible have cc := bel_cell hb (nc1' _ s.began _)) | (with_reducible have cc := bel_cell hb cc) | (with_reducible have cc := bel_cell hb (nc3 _ (W.heap.size + 1 + 1) s.began _ (by simp))) | (with_reducible have cc := bel_cell hb (cell_dr (nc3 _ (W.heap.size + 1 + 1) s.began _ (by simp)))) | skip)
    go_wp2_with fail
    refine hK.out _ _ (sig_k hHeld hb) (fun hHeld => ?_)
    clear hK
    try simp only [List.setIfInBounds_toArray, List.set_cons_zero, List.set_cons_succ]
    refine wpAnyH_ready (rs := [10, 30]) (by kernel_rfl) (by simp) ?_
    refine AllReadyH.cons (o := ⟨some 19, _, _, _, _, _⟩) rfl (fun K hK => ?_) ?_
    · go_simp
      refine (HSt.out _ hHeld.out.at_).mono ?_
      rintro e w1 ⟨rfl, hb⟩
      (first | (with_reducible have cc := bel_cell hb (nc1 _ s.began _)) | (with_reducible have cc := bel_cell hb (nc1' _ s.began _)) | (with_reducible have cc := bel_cell hb cc) | (with_reducible have cc := bel_cell hb (nc3 _ (W.heap.size + 1 + 1) s.began _ (by simp))) | (with_reducible have cc := bel_cell hb (cell_dr (nc3 _ (W.heap.size + 1 + 1) s.began _ (by simp)))) | skip)
      go_wp2_with fail
      refine hK.out _ _ (sig_k hHeld hb) (fun hHeld => ?_)
      clear hK
      try simp only [List.setIfInBounds_toArray, List.set_cons_zero, List.set_cons_succ]
      refine wpAnyH_ready (rs := [14, 30]) (by kernel_rfl) (by simp) ?_
      refine AllReadyH.cons (o := ⟨some 23, _, _, _, _, _⟩) rfl (fun K hK => ?_) ?_
      · go_simp
        refine (HHo.out _ hHeld.out.at_).mono ?_
        rintro e w1 ⟨rfl, hb⟩
        (first | (with_reducible have cc := bel_cell hb (nc1 _ s.began _)) | (with_reducible have cc := bel_cell hb (nc1' _ s.began _)) | (with_reducible have cc := bel_cell hb cc) | (with_reducible have cc := bel_cell hb (nc3 _ (W.heap.size + 1 + 1) s.began _ (by simp))) | (with_reducible have cc := bel_cell hb (cell_dr (nc3 _ (W.heap.size + 1 + 1) s.began _ (by simp)))) | skip)
        go_wp2_with fail
        refine hK.out _ _ (sig_k hHeld hb) (fun hHeld => ?_)
        clear hK
        try simp only [List.setIfInBounds_toArray, List.set_cons_zero, List.set_cons_succ]
        refine wpAnyH_ready (rs := [19, 30]) (by kernel_rfl) (by simp) ?_
        refine AllReadyH.cons (o := ⟨some 28, _, _, _, _, _⟩) rfl (fun K hK => ?_) ?_
        · go_simp
          refine (HRo.out _ hHeld.out.at_).mono ?_
          rintro e w1 ⟨rfl, hb⟩
          (first | (with_reducible have cc := bel_cell hb (nc1 _ s.began _)) | (with_reducible have cc := bel_cell hb (nc1' _ s.began _)) | (with_reducible have cc := bel_cell hb cc) | (with_reducible have cc := bel_cell hb (nc3 _ (W.heap.size + 1 + 1) s.began _ (by simp))) | (with_reducible have cc := bel_cell hb (cell_dr (nc3 _ (W.heap.size + 1 + 1) s.began _ (by simp)))) | skip)
          go_wp2_with fail
          refine hK.out _ _ (sig_k hHeld hb) (fun hHeld => ?_)
          clear hK
          try simp only [List.setIfInBounds_toArray, List.set_cons_zero, List.set_cons_succ]
          refine wpAnyH_ready (rs := [30]) (by kernel_rfl) (by simp) ?_
          refine AllReadyH.cons (o := ⟨some 39, _, _, _, _, _⟩) rfl (fun K hK => ?_) AllReadyH.nil
          go_simp
          refine hK.out _ _ (sig_k hHeld (al_be _ _)) (fun hHeld => ?_)
          clear hK
          try simp only [List.setIfInBounds_toArray, List.set_cons_zero, List.set_cons_succ]
          refine wpAnyH_ready (rs := [31]) (by kernel_rfl) (by simp) ?_
          refine AllReadyH.cons (o := ⟨some 40, _, _, _, _, _⟩) rfl (fun K hK => ?_) AllReadyH.nil
          go_simp
          refine (HSu.out _ _ (by first | with_reducible exact cc | (simp at cc; exact cc) | with_reducible exact nc1 _ _ _ | with_reducible exact nc1' _ _ _)).mono ?_
          rintro e w1 ⟨rfl, hb⟩
          go_wp2_with fail
          refine hK.out _ _ (sig_k hHeld hb) (fun hHeld => ?_)
          clear hK
          try simp only [List.setIfInBounds_toArray, List.set_cons_zero, List.set_cons_succ]
          refine wpAnyH_ready (rs := [40]) (by kernel_rfl) (by simp) ?_
          refine AllReadyH.cons (o := ⟨some 49, _, _, _, _, _⟩) rfl (fun K hK => ?_) AllReadyH.nil
          go_simp
          refine (HCo.out _ hHeld.out.at_).mono ?_
          rintro e w1 ⟨rfl, hb⟩
          (first | (with_reducible have cc := bel_cell hb (nc1 _ s.began _)) | (with_reducible have cc := bel_cell hb (nc1' _ s.began _)) | (with_reducible have cc := bel_cell hb cc) | (with_reducible have cc := bel_cell hb (nc3 _ (W.heap.size + 1 + 1) s.began _ (by simp))) | (with_reducible have cc := bel_cell hb (cell_dr (nc3 _ (W.heap.size + 1 + 1) s.began _ (by simp)))) | skip)
          go_wp2_with fail
          refine hK.out _ _ (sig_k hHeld hb) (fun hHeld => ?_)
          clear hK
          try simp only [List.setIfInBounds_toArray, List.set_cons_zero, List.set_cons_succ]
          refine wpAnyH_ready (rs := [46]) (by kernel_rfl) (by simp) ?_
          refine AllReadyH.cons (o := ⟨some 55, _, _, _, _, _⟩) rfl (fun K hK => ?_) AllReadyH.nil
          go_simp
          refine (HWa.out _ hHeld.out.at_).mono ?_
          rintro e w1 ⟨rfl, hb⟩
          (first | (with_reducible have cc := bel_cell hb (nc1 _ s.began _)) | (with_reducible have cc := bel_cell hb (nc1' _ s.began _)) | (with_reducible have cc := bel_cell hb cc) | (with_reducible have cc := bel_cell hb (nc3 _ (W.heap.size + 1 + 1) s.began _ (by simp))) | (with_reducible have cc := bel_cell hb (cell_dr (nc3 _ (W.heap.size + 1 + 1) s.began _ (by simp)))) | skip)
          go_wp2_with fail
          refine hK.out _ _ (sig_k hHeld hb) (fun hHeld => ?_)
          clear hK
          try simp only [List.setIfInBounds_toArray, List.set_cons_zero, List.set_cons_succ]
          refine wpAnyH_take (i := 47) (oi := ⟨some 56, _, _, _, _, _⟩) (v := ?v40) rfl (by kernel_rfl) (by kernel_rfl) (by kernel_rfl) (fun _ _ _ h => h) (Or.inl ⟨by rfl, ?y40⟩) (by assumption) ?r40
          case y40 => intro w hSw; clear hSw; go_simp; (try with_reducible rfl)
          simp only [Act.put, List.setIfInBounds_toArray, List.set_cons_zero, List.set_cons_succ]
          refine wpAnyH_ready (rs := [48]) (by kernel_rfl) (by simp) ?_
          refine AllReadyH.cons (o := ⟨none, _, _, _, _, _⟩) rfl (fun K hK => ?_) AllReadyH.nil
          obtain ⟨cs, hsz, hre⟩ := hHeld.out.re
          rw [if_pos (by rfl)]
          refine wp_store_row _ _ _ rfl (W.heap.size + 1) #[.bool d0, .bool ov, .bool lo, .bool d3, .int .u64 (x.fl : Int), .int .u64 (d5 : Int), .int .u64 (d6 : Int), .int .u64 (s.rounds : Int), .int .u64 (d8 : Int), .int .u64 (d9 : Int)] rfl rfl _ cs hre (by kernel_rfl) hsz (by simp [Value.oneCell']) ?_
          refine hK.out _ _ (sig_row hHeld #[.bool d0, .bool ov, .bool lo, .bool d3, .int .u64 (x.fl : Int), .int .u64 (d5 : Int), .int .u64 (d6 : Int), .int .u64 (s.rounds : Int), .int .u64 (d8 : Int), .int .u64 (d9 : Int)] rfl) (fun hHeld => ?_)
          clear hK
          try simp only [List.setIfInBounds_toArray, List.set_cons_zero, List.set_cons_succ]
          refine wpAnyH_done (by kernel_rfl) ?_ _
          refine NoPanic.normal ?_
          have F1 := Lib.hid (Blk.row hre #[.bool d0, .bool ov, .bool lo, .bool d3, .int .u64 (x.fl : Int), .int .u64 (d5 : Int), .int .u64 (d6 : Int), .int .u64 (s.rounds : Int), .int .u64 (d8 : Int), .int .u64 (d9 : Int)])
          have FW := Lib.hid hHeld.out.bel
          go_wp2_with fail
          exact bodyPost_ret (results_cell rfl _ _ (W.heap.size + 1) 64 _ _ rfl F1.out Tryd.underlying64 rfl (by kernel_rfl)) rfl ⟨by rw [HT.out], FW.out⟩
        refine AllReadyH.cons (o := ⟨some 39, _, _, _, _, _⟩) rfl (fun K hK => ?_) AllReadyH.nil
        go_simp
        refine hK.out _ _ (sig_k hHeld (al_be _ _)) (fun hHeld => ?_)
        clear hK
        try simp only [List.setIfInBounds_toArray, List.set_cons_zero, List.set_cons_succ]
        refine wpAnyH_ready (rs := [19]) (by kernel_rfl) (by simp) ?_
        refine AllReadyH.cons (o := ⟨some 28, _, _, _, _, _⟩) rfl (fun K hK => ?_) AllReadyH.nil
        go_simp
        refine (HRo.out _ hHeld.out.at_).mono ?_
        rintro e w1 ⟨rfl, hb⟩
        (first | (with_reducible have cc := bel_cell hb (nc1 _ s.began _)) | (with_reducible have cc := bel_cell hb (nc1' _ s.began _)) | (with_reducible have cc := bel_cell hb cc) | (with_reducible have cc := bel_cell hb (nc3 _ (W.heap.size + 1 + 1) s.began _ (by simp))) | (with_reducible have cc := bel_cell hb (cell_dr (nc3 _ (W.heap.size + 1 + 1) s.began _ (by simp)))) | skip)
        go_wp2_with fail
        refine hK.out _ _ (sig_k hHeld hb) (fun hHeld => ?_)
        clear hK
        try simp only [List.setIfInBounds_toArray, List.set_cons_zero, List.set_cons_succ]
        refine wpAnyH_ready (rs := [31]) (by kernel_rfl) (by simp) ?_
        refine AllReadyH.cons (o := ⟨some 40, _, _, _, _, _⟩) rfl (fun K hK => ?_) AllReadyH.nil
        go_simp
        refine (HSu.out _ _ (by first | with_reducible exact cc | (simp at cc; exact cc) | with_reducible exact nc1 _ _ _ | with_reducible exact nc1' _ _ _)).mono ?_
        rintro e w1 ⟨rfl, hb⟩
        go_wp2_with fail
        refine hK.out _ _ (sig_k hHeld hb) (fun hHeld => ?_)
        clear hK
        try simp only [List.setIfInBounds_toArray, List.set_cons_zero, List.set_cons_succ]
        refine wpAnyH_ready (rs := [40]) (by kernel_rfl) (by simp) ?_
        refine AllReadyH.cons (o := ⟨some 49, _, _, _, _, _⟩) rfl (fun K hK => ?_) AllReadyH.nil
        go_simp
        refine (HCo.out _ hHeld.out.at_).mono ?_
        rintro e w1 ⟨rfl, hb⟩
        (first | (with_reducible have cc := bel_cell hb (nc1 _ s.began _)) | (with_reducible have cc := bel_cell hb (nc1' _ s.began _)) | (with_reducible have cc := bel_cell hb cc) | (with_reducible have cc := bel_cell hb (nc3 _ (W.heap.size + 1 + 1) s.began _ (by simp))) | (with_reducible have cc := bel_cell hb (cell_dr (nc3 _ (W.heap.size + 1 + 1) s.began _ (by simp)))) | skip)
        go_wp2_with fail
        refine hK.out _ _ (sig_k hHeld hb) (fun hHeld => ?_)
        clear hK
        try simp only [List.setIfInBounds_toArray, List.set_cons_zero, List.set_cons_succ]
        refine wpAnyH_ready (rs := [46]) (by kernel_rfl) (by simp) ?_
        refine AllReadyH.cons (o := ⟨some 55, _, _, _, _, _⟩) rfl (fun K hK => ?_) AllReadyH.nil
        go_simp
        refine (HWa.out _ hHeld.out.at_).mono ?_
        rintro e w1 ⟨rfl, hb⟩
        (first | (with_reducible have cc := bel_cell hb (nc1 _ s.began _)) | (with_reducible have cc := bel_cell hb (nc1' _ s.began _)) | (with_reducible have cc := bel_cell hb cc) | (with_reducible have cc := bel_cell hb (nc3 _ (W.heap.size + 1 + 1) s.began _ (by simp))) | (with_reducible have cc := bel_cell hb (cell_dr (nc3 _ (W.heap.size + 1 + 1) s.began _ (by simp)))) | skip)
        go_wp2_with fail
        refine hK.out _ _ (sig_k hHeld hb) (fun hHeld => ?_)
        clear hK
        try simp only [List.setIfInBounds_toArray, List.set_cons_zero, List.set_cons_succ]
        refine wpAnyH_take (i := 47) (oi := ⟨some 56, _, _, _, _, _⟩) (v := ?v41) rfl (by kernel_rfl) (by kernel_rfl) (by kernel_rfl) (fun _ _ _ h => h) (Or.inl ⟨by rfl, ?y41⟩) (by assumption) ?r41
        case y41 => intro w hSw; clear hSw; go_simp; (try with_reducible rfl)
        simp only [Act.put, List.setIfInBounds_toArray, List.set_cons_zero, List.set_cons_succ]
        refine wpAnyH_ready (rs := [48]) (by kernel_rfl) (by simp) ?_
        refine AllReadyH.cons (o := ⟨none, _, _, _, _, _⟩) rfl (fun K hK => ?_) AllReadyH.nil
        obtain ⟨cs, hsz, hre⟩ := hHeld.out.re
        rw [if_pos (by rfl)]
        refine wp_store_row _ _ _ rfl (W.heap.size + 1) #[.bool d0, .bool ov, .bool lo, .bool d3, .int .u64 (x.fl : Int), .int .u64 (d5 : Int), .int .u64 (d6 : Int), .int .u64 (s.rounds : Int), .int .u64 (d8 : Int), .int .u64 (d9 : Int)] rfl rfl _ cs hre (by kernel_rfl) hsz (by simp [Value.oneCell']) ?_
        refine hK.out _ _ (sig_row hHeld #[.bool d0, .bool ov, .bool lo, .bool d3, .int .u64 (x.fl : Int), .int .u64 (d5 : Int), .int .u64 (d6 : Int), .int .u64 (s.rounds : Int), .int .u64 (d8 : Int), .int .u64 (d9 : Int)] rfl) (fun hHeld => ?_)
        clear hK
        try simp only [List.setIfInBounds_toArray, List.set_cons_zero, List.set_cons_succ]
        refine wpAnyH_done (by kernel_rfl) ?_ _
        refine NoPanic.normal ?_
        have F1 := Lib.hid (Blk.row hre #[.bool d0, .bool ov, .bool lo, .bool d3, .int .u64 (x.fl : Int), .int .u64 (d5 : Int), .int .u64 (d6 : Int), .int .u64 (s.rounds : Int), .int .u64 (d8 : Int), .int .u64 (d9 : Int)])
        have FW := Lib.hid hHeld.out.bel
        go_wp2_with fail
        exact bodyPost_ret (results_cell rfl _ _ (W.heap.size + 1) 64 _ _ rfl F1.out Tryd.underlying64 rfl (by kernel_rfl)) rfl ⟨by rw [HT.out], FW.out⟩
      refine AllReadyH.cons (o := ⟨some 39, _, _, _, _, _⟩) rfl (fun K hK => ?_) AllReadyH.nil
      go_simp
      refine hK.out _ _ (sig_k hHeld (al_be _ _)) (fun hHeld => ?_)
      clear hK
      try simp only [List.setIfInBounds_toArray, List.set_cons_zero, List.set_cons_succ]
      refine wpAnyH_ready (rs := [14]) (by kernel_rfl) (by simp) ?_
      refine AllReadyH.cons (o := ⟨some 23, _, _, _, _, _⟩) rfl (fun K hK => ?_) AllReadyH.nil
      go_simp
      refine (HHo.out _ hHeld.out.at_).mono ?_
      rintro e w1 ⟨rfl, hb⟩
      (first | (with_reducible have cc := bel_cell hb (nc1 _ s.began _)) | (with_reducible have cc := bel_cell hb (nc1' _ s.began _)) | (with_reducible have cc := bel_cell hb cc) | (with_reducible have cc := bel_cell hb (nc3 _ (W.heap.size + 1 + 1) s.began _ (by simp))) | (with_reducible have cc := bel_cell hb (cell_dr (nc3 _ (W.heap.size + 1 + 1) s.began _ (by simp)))) | skip)
      go_wp2_with fail
      refine hK.out _ _ (sig_k hHeld hb) (fun hHeld => ?_)
      clear hK
      try simp only [List.setIfInBounds_toArray, List.set_cons_zero, List.set_cons_succ]
      refine wpAnyH_ready (rs := [19]) (by kernel_rfl) (by simp) ?_
      refine AllReadyH.cons (o := ⟨some 28, _, _, _, _, _⟩) rfl (fun K hK => ?_) AllReadyH.nil
      go_simp
      refine (HRo.out _ hHeld.out.at_).mono ?_
      rintro e w1 ⟨rfl, hb⟩
      (first | (with_reducible have cc := bel_cell hb (nc1 _ s.began _)) | (with_reducible have cc := bel_cell hb (nc1' _ s.began _)) | (with_reducible have cc := bel_cell hb cc) | (with_reducible have cc := bel_cell hb (nc3 _ (W.heap.size + 1 + 1) s.began _ (by simp))) | (with_reducible have cc := bel_cell hb (cell_dr (nc3 _ (W.heap.size + 1 + 1) s.began _ (by simp)))) | skip)
      go_wp2_with fail
      refine hK.out _ _ (sig_k hHeld hb) (fun hHeld => ?_)
      clear hK
      try simp only [List.setIfInBounds_toArray, List.set_cons_zero, List.set_cons_succ]
      refine wpAnyH_ready (rs := [31]) (by kernel_rfl) (by simp) ?_
      refine AllReadyH.cons (o := ⟨some 40, _, _, _, _, _⟩) rfl (fun K hK => ?_) AllReadyH.nil
      go_simp
      refine (HSu.out _ _ (by first | with_reducible exact cc | (simp at cc; exact cc) | with_reducible exact nc1 _ _ _ | with_reducible exact nc1' _ _ _)).mono ?_
      rintro e w1 ⟨rfl, hb⟩
      go_wp2_with fail
      refine hK.out _ _ (sig_k hHeld hb) (fun hHeld => ?_)
      clear hK
      try simp only [List.setIfInBounds_toArray, List.set_cons_zero, List.set_cons_succ]
      refine wpAnyH_ready (rs := [40]) (by kernel_rfl) (by simp) ?_
      refine AllReadyH.cons (o := ⟨some 49, _, _, _, _, _⟩) rfl (fun K hK => ?_) AllReadyH.nil
      go_simp
      refine (HCo.out _ hHeld.out.at_).mono ?_
      rintro e w1 ⟨rfl, hb⟩
      (first | (with_reducible have cc := bel_cell hb (nc1 _ s.began _)) | (with_reducible have cc := bel_cell hb (nc1' _ s.began _)) | (with_reducible have cc := bel_cell hb cc) | (with_reducible have cc := bel_cell hb (nc3 _ (W.heap.size + 1 + 1) s.began _ (by simp))) | (with_reducible have cc := bel_cell hb (cell_dr (nc3 _ (W.heap.size + 1 + 1) s.began _ (by simp)))) | skip)
      go_wp2_with fail
      refine hK.out _ _ (sig_k hHeld hb) (fun hHeld => ?_)
      clear hK
      try simp only [List.setIfInBounds_toArray, List.set_cons_zero, List.set_cons_succ]
      refine wpAnyH_ready (rs := [46]) (by kernel_rfl) (by simp) ?_
      refine AllReadyH.cons (o := ⟨some 55, _, _, _, _, _⟩) rfl (fun K hK => ?_) AllReadyH.nil
      go_simp
      refine (HWa.out _ hHeld.out.at_).mono ?_
      rintro e w1 ⟨rfl, hb⟩
      (first | (with_reducible have cc := bel_cell hb (nc1 _ s.began _)) | (with_reducible have cc := bel_cell hb (nc1' _ s.began _)) | (with_reducible have cc := bel_cell hb cc) | (with_reducible have cc := bel_cell hb (nc3 _ (W.heap.size + 1 + 1) s.began _ (by simp))) | (with_reducible have cc := bel_cell hb (cell_dr (nc3 _ (W.heap.size + 1 + 1) s.began _ (by simp)))) | skip)
      go_wp2_with fail
      refine hK.out _ _ (sig_k hHeld hb) (fun hHeld => ?_)
      clear hK
      try simp only [List.setIfInBounds_toArray, List.set_cons_zero, List.set_cons_succ]
      refine wpAnyH_take (i := 47) (oi := ⟨some 56, _, _, _, _, _⟩) (v := ?v42) rfl (by kernel_rfl) (by kernel_rfl) (by kernel_rfl) (fun _ _ _ h => h) (Or.inl ⟨by rfl, ?y42⟩) (by assumption) ?r42
      case y42 => intro w hSw; clear hSw; go_simp; (try with_reducible rfl)
      simp only [Act.put, List.setIfInBounds_toArray, List.set_cons_zero, List.set_cons_succ]
      refine wpAnyH_ready (rs := [48]) (by kernel_rfl) (by simp) ?_
      refine AllReadyH.cons (o := ⟨none, _, _, _, _, _⟩) rfl (fun K hK => ?_) AllReadyH.nil
      obtain ⟨cs, hsz, hre⟩ := hHeld.out.re
      rw [if_pos (by rfl)]
      refine wp_store_row _ _ _ rfl (W.heap.size + 1) #[.bool d0, .bool ov, .bool lo, .bool d3, .int .u64 (x.fl : Int), .int .u64 (d5 : Int), .int .u64 (d6 : Int), .int .u64 (s.rounds : Int), .int .u64 (d8 : Int), .int .u64 (d9 : Int)] rfl rfl _ cs hre (by kernel_rfl) hsz (by simp [Value.oneCell']) ?_
      refine hK.out _ _ (sig_row hHeld #[.bool d0, .bool ov, .bool lo, .bool d3, .int .u64 (x.fl : Int), .int .u64 (d5 : Int), .int .u64 (d6 : Int), .int .u64 (s.rounds : Int), .int .u64 (d8 : Int), .int .u64 (d9 : Int)] rfl) (fun hHeld => ?_)
      clear hK
      try simp only [List.setIfInBounds_toArray, List.set_cons_zero, List.set_cons_succ]
      refine wpAnyH_done (by kernel_rfl) ?_ _
      refine NoPanic.normal ?_
      have F1 := Lib.hid (Blk.row hre #[.bool d0, .bool ov, .bool lo, .bool d3, .int .u64 (x.fl : Int), .int .u64 (d5 : Int), .int .u64 (d6 : Int), .int .u64 (s.rounds : Int), .int .u64 (d8 : Int), .int .u64 (d9 : Int)])
      have FW := Lib.hid hHeld.out.bel
      go_wp2_with fail
      exact bodyPost_ret (results_cell rfl _ _ (W.heap.size + 1) 64 _ _ rfl F1.out Tryd.underlying64 rfl (by kernel_rfl)) rfl ⟨by rw [HT.out], FW.out⟩
    refine AllReadyH.cons (o := ⟨some 39, _, _, _, _, _⟩) rfl (fun K hK => ?_) AllReadyH.nil
    go_simp
    refine hK.out _ _ (sig_k hHeld (al_be _ _)) (fun hHeld => ?_)
    clear hK
    try simp only [List.setIfInBounds_toArray, List.set_cons_zero, List.set_cons_succ]
    refine wpAnyH_ready (rs := [10]) (by kernel_rfl) (by simp) ?_
    refine AllReadyH.cons (o := ⟨some 19, _, _, _, _, _⟩) rfl (fun K hK => ?_) AllReadyH.nil
    go_simp
    refine (HSt.out _ hHeld.out.at_).mono ?_
    rintro e w1 ⟨rfl, hb⟩
    (first | (with_reducible have cc := bel_cell hb (nc1 _ s.began _)) | (with_reducible have cc := bel_cell hb (nc1' _ s.began _)) | (with_reducible have cc := bel_cell hb cc) | (with_reducible have cc := bel_cell hb (nc3 _ (W.heap.size + 1 + 1) s.began _ (by simp))) | (with_reducible have cc := bel_cell hb (cell_dr (nc3 _ (W.heap.size + 1 + 1) s.began _ (by simp)))) | skip)
    go_wp2_with fail
    refine hK.out _ _ (sig_k hHeld hb) (fun hHeld => ?_)
    clear hK
    try simp only [List.setIfInBounds_toArray, List.set_cons_zero, List.set_cons_succ]
    refine wpAnyH_ready (rs := [14]) (by kernel_rfl) (by simp) ?_
    refine AllReadyH.cons (o := ⟨some 23, _, _, _, _, _⟩) rfl (fun K hK => ?_) AllReadyH.nil
    go_simp
    refine (HHo.out _ hHeld.out.at_).mono ?_
    rintro e w1 ⟨rfl, hb⟩
    (first | (with_reducible have cc := bel_cell hb (nc1 _ s.began _)) | (with_reducible have cc := bel_cell hb (nc1' _ s.began _)) | (with_reducible have cc := bel_cell hb cc) | (with_reducible have cc := bel_cell hb (nc3 _ (W.heap.size + 1 + 1) s.began _ (by simp))) | (with_reducible have cc := bel_cell hb (cell_dr (nc3 _ (W.heap.size + 1 + 1) s.began _ (by simp)))) | skip)
    go_wp2_with fail
    refine hK.out _ _ (sig_k hHeld hb) (fun hHeld => ?_)
    clear hK
    try simp only [List.setIfInBounds_toArray, List.set_cons_zero, List.set_cons_succ]
    refine wpAnyH_ready (rs := [19]) (by kernel_rfl) (by simp) ?_
    refine AllReadyH.cons (o := ⟨some 28, _, _, _, _, _⟩) rfl (fun K hK => ?_) AllReadyH.nil
    go_simp
    refine (HRo.out _ hHeld.out.at_).mono ?_
    rintro e w1 ⟨rfl, hb⟩
    (first | (with_reducible have cc := bel_cell hb (nc1 _ s.began _)) | (with_reducible have cc := bel_cell hb (nc1' _ s.began _)) | (with_reducible have cc := bel_cell hb cc) | (with_reducible have cc := bel_cell hb (nc3 _ (W.heap.size + 1 + 1) s.began _ (by simp))) | (with_reducible have cc := bel_cell hb (cell_dr (nc3 _ (W.heap.size + 1 + 1) s.began _ (by simp)))) | skip)
    go_wp2_with fail
    refine hK.out _ _ (sig_k hHeld hb) (fun hHeld => ?_)
    clear hK
    try simp only [List.setIfInBounds_toArray, List.set_cons_zero, List.set_cons_succ]
    refine wpAnyH_ready (rs := [31]) (by kernel_rfl) (by simp) ?_
    refine AllReadyH.cons (o := ⟨some 40, _, _, _, _, _⟩) rfl (fun K hK => ?_) AllReadyH.nil
    go_simp
    refine (HSu.out _ _ (by first | with_reducible exact cc | (simp at cc; exact cc) | with_reducible exact nc1 _ _ _ | with_reducible exact nc1' _ _ _)).mono ?_
    rintro e w1 ⟨rfl, hb⟩
    go_wp2_with fail
    refine hK.out _ _ (sig_k hHeld hb) (fun hHeld => ?_)
    clear hK
    try simp only [List.setIfInBounds_toArray, List.set_cons_zero, List.set_cons_succ]
    refine wpAnyH_ready (rs := [40]) (by kernel_rfl) (by simp) ?_
    refine AllReadyH.cons (o := ⟨some 49, _, _, _, _, _⟩) rfl (fun K hK => ?_) AllReadyH.nil
    go_simp
    refine (HCo.out _ hHeld.out.at_).mono ?_
    rintro e w1 ⟨rfl, hb⟩
    (first | (with_reducible have cc := bel_cell hb (nc1 _ s.began _)) | (with_reducible have cc := bel_cell hb (nc1' _ s.began _)) | (with_reducible have cc := bel_cell hb cc) | (with_reducible have cc := bel_cell hb (nc3 _ (W.heap.size + 1 + 1) s.began _ (by simp))) | (with_reducible have cc := bel_cell hb (cell_dr (nc3 _ (W.heap.size + 1 + 1) s.began _ (by simp)))) | skip)
    go_wp2_with fail
    refine hK.out _ _ (sig_k hHeld hb) (fun hHeld => ?_)
    clear hK
    try simp only [List.setIfInBounds_toArray, List.set_cons_zero, List.set_cons_succ]
    refine wpAnyH_ready (rs := [46]) (by kernel_rfl) (by simp) ?_
    refine AllReadyH.cons (o := ⟨some 55, _, _, _, _, _⟩) rfl (fun K hK => ?_) AllReadyH.nil
    go_simp
    refine (HWa.out _ hHeld.out.at_).mono ?_
    rintro e w1 ⟨rfl, hb⟩
    (first | (with_reducible have cc := bel_cell hb (nc1 _ s.began _)) | (with_reducible have cc := bel_cell hb (nc1' _ s.began _)) | (with_reducible have cc := bel_cell hb cc) | (with_reducible have cc := bel_cell hb (nc3 _ (W.heap.size + 1 + 1) s.began _ (by simp))) | (with_reducible have cc := bel_cell hb (cell_dr (nc3 _ (W.heap.size + 1 + 1) s.began _ (by simp)))) | skip)
    go_wp2_with fail
    refine hK.out _ _ (sig_k hHeld hb) (fun hHeld => ?_)
    clear hK
    try simp only [List.setIfInBounds_toArray, List.set_cons_zero, List.set_cons_succ]
    refine wpAnyH_take (i := 47) (oi := ⟨some 56, _, _, _, _, _⟩) (v := ?v43) rfl (by kernel_rfl) (by kernel_rfl) (by kernel_rfl) (fun _ _ _ h => h) (Or.inl ⟨by rfl, ?y43⟩) (by assumption) ?r43
    case y43 => intro w hSw; clear hSw; go_simp; (try with_reducible rfl)
    simp only [Act.put, List.setIfInBounds_toArray, List.set_cons_zero, List.set_cons_succ]
    refine wpAnyH_ready (rs := [48]) (by kernel_rfl) (by simp) ?_
    refine AllReadyH.cons (o := ⟨none, _, _, _, _, _⟩) rfl (fun K hK => ?_) AllReadyH.nil
    obtain ⟨cs, hsz, hre⟩ := hHeld.out.re
    rw [if_pos (by rfl)]
    refine wp_store_row _ _ _ rfl (W.heap.size + 1) #[.bool d0, .bool ov, .bool lo, .bool d3, .int .u64 (x.fl : Int), .int .u64 (d5 : Int), .int .u64 (d6 : Int), .int .u64 (s.rounds : Int), .int .u64 (d8 : Int), .int .u64 (d9 : Int)] rfl rfl _ cs hre (by kernel_rfl) hsz (by simp [Value.oneCell']) ?_
    refine hK.out _ _ (sig_row hHeld #[.bool d0, .bool ov, .bool lo, .bool d3, .int .u64 (x.fl : Int), .int .u64 (d5 : Int), .int .u64 (d6 : Int), .int .u64 (s.rounds : Int), .int .u64 (d8 : Int), .int .u64 (d9 : Int)] rfl) (fun hHeld => ?_)
    clear hK
    try simp only [List.setIfInBounds_toArray, List.set_cons_zero, List.set_cons_succ]
    refine wpAnyH_done (by kernel_rfl) ?_ _
    refine NoPanic.normal ?_
    have F1 := Lib.hid (Blk.row hre #[.bool d0, .bool ov, .bool lo, .bool d3, .int .u64 (x.fl : Int), .int .u64 (d5 : Int), .int .u64 (d6 : Int), .int .u64 (s.rounds : Int), .int .u64 (d8 : Int), .int .u64 (d9 : Int)])
    have FW := Lib.hid hHeld.out.bel
    go_wp2_with fail
    exact bodyPost_ret (results_cell rfl _ _ (W.heap.size + 1) 64 _ _ rfl F1.out Tryd.underlying64 rfl (by kernel_rfl)) rfl ⟨by rw [HT.out], FW.out⟩
  refine AllReadyH.cons (o := ⟨some 39, _, _, _, _, _⟩) rfl (fun K hK => ?_) AllReadyH.nil
  go_simp
  refine hK.out _ _ (sig_k hHeld (al_be _ _)) (fun hHeld => ?_)
  clear hK
  try simp only [List.setIfInBounds_toArray, List.set_cons_zero, List.set_cons_succ]
  refine wpAnyH_ready (rs := [4]) (by kernel_rfl) (by simp) ?_
  refine AllReadyH.cons (o := ⟨some 13, _, _, _, _, _⟩) rfl (fun K hK => ?_) AllReadyH.nil
  go_simp
  refine (HFu.out _ hHeld.out.at_).mono ?_
  rintro e w1 ⟨rfl, hb⟩
  (first | (with_reducible have cc := bel_cell hb (nc1 _ s.began _)) | (with_reducible have cc := bel_cell hb (nc1' _ s.began _)) | (with_reducible have cc := bel_cell hb cc) | (with_reducible have cc := bel_cell hb (nc3 _ (W.heap.size + 1 + 1) s.began _ (by simp))) | (with_reducible have cc := bel_cell hb (cell_dr (nc3 _ (W.heap.size + 1 + 1) s.began _ (by simp)))) | skip)
  go_wp2_with fail
  refine hK.out _ _ (sig_k hHeld hb) (fun hHeld => ?_)
  clear hK
  try simp only [List.setIfInBounds_toArray, List.set_cons_zero, List.set_cons_succ]
  refine wpAnyH_ready (rs := [10]) (by kernel_rfl) (by simp) ?_
  refine AllReadyH.cons (o := ⟨some 19, _, _, _, _, _⟩) rfl (fun K hK => ?_) AllReadyH.nil
  go_simp
  refine (HSt.out _ hHeld.out.at_).mono ?_
  rintro e w1 ⟨rfl, hb⟩
  (first | (with_reducible have cc := bel_cell hb (nc1 _ s.began _)) | (with_reducible have cc := bel_cell hb (nc1' _ s.began _)) | (with_reducible have cc := bel_cell hb cc) | (with_reducible have cc := bel_cell hb (nc3 _ (W.heap.size + 1 + 1) s.began _ (by simp))) | (with_reducible have cc := bel_cell hb (cell_dr (nc3 _ (W.heap.size + 1 + 1) s.began _ (by simp)))) | skip)
  go_wp2_with fail
  refine hK.out _ _ (sig_k hHeld hb) (fun hHeld => ?_)
  clear hK
  try simp only [List.setIfInBounds_toArray, List.set_cons_zero, List.set_cons_succ]
  refine wpAnyH_ready (rs := [14]) (by kernel_rfl) (by simp) ?_
  refine AllReadyH.cons (o := ⟨some 23, _, _, _, _, _⟩) rfl (fun K hK => ?_) AllReadyH.nil
  go_simp
  refine (HHo.out _ hHeld.out.at_).mono ?_
  rintro e w1 ⟨rfl, hb⟩
  (first | (with_reducible have cc := bel_cell hb (nc1 _ s.began _)) | (with_reducible have cc := bel_cell hb (nc1' _ s.began _)) | (with_reducible have cc := bel_cell hb cc) | (with_reducible have cc := bel_cell hb (nc3 _ (W.heap.size + 1 + 1) s.began _ (by simp))) | (with_reducible have cc := bel_cell hb (cell_dr (nc3 _ (W.heap.size + 1 + 1) s.began _ (by simp)))) | skip)
  go_wp2_with fail
  refine hK.out _ _ (sig_k hHeld hb) (fun hHeld => ?_)
  clear hK
  try simp only [List.setIfInBounds_toArray, List.set_cons_zero, List.set_cons_succ]
  refine wpAnyH_ready (rs := [19]) (by kernel_rfl) (by simp) ?_
  refine AllReadyH.cons (o := ⟨some 28, _, _, _, _, _⟩) rfl (fun K hK => ?_) AllReadyH.nil
  go_simp
  refine (HRo.out _ hHeld.out.at_).mono ?_
  rintro e w1 ⟨rfl, hb⟩
  (first | (with_reducible have cc := bel_cell hb (nc1 _ s.began _)) | (with_reducible have cc := bel_cell hb (nc1' _ s.began _)) | (with_reducible have cc := bel_cell hb cc) | (with_reducible have cc := bel_cell hb (nc3 _ (W.heap.size + 1 + 1) s.began _ (by simp))) | (with_reducible have cc := bel_cell hb (cell_dr (nc3 _ (W.heap.size + 1 + 1) s.began _ (by simp)))) | skip)
  go_wp2_with fail
  refine hK.out _ _ (sig_k hHeld hb) (fun hHeld => ?_)
  clear hK
  try simp only [List.setIfInBounds_toArray, List.set_cons_zero, List.set_cons_succ]
  refine wpAnyH_ready (rs := [31]) (by kernel_rfl) (by simp) ?_
  refine AllReadyH.cons (o := ⟨some 40, _, _, _, _, _⟩) rfl (fun K hK => ?_) AllReadyH.nil
  go_simp
  refine (HSu.out _ _ (by first | with_reducible exact cc | (simp at cc; exact cc) | with_reducible exact nc1 _ _ _ | with_reducible exact nc1' _ _ _)).mono ?_
  rintro e w1 ⟨rfl, hb⟩
  go_wp2_with fail
  refine hK.out _ _ (sig_k hHeld hb) (fun hHeld => ?_)
  clear hK
  try simp only [List.setIfInBounds_toArray, List.set_cons_zero, List.set_cons_succ]
  refine wpAnyH_ready (rs := [40]) (by kernel_rfl) (by simp) ?_
  refine AllReadyH.cons (o := ⟨some 49, _, _, _, _, _⟩) rfl (fun K hK => ?_) AllReadyH.nil
  go_simp
  refine (HCo.out _ hHeld.out.at_).mono ?_
  rintro e w1 ⟨rfl, hb⟩
  (first | (with_reducible have cc := bel_cell hb (nc1 _ s.began _)) | (with_reducible have cc := bel_cell hb (nc1' _ s.began _)) | (with_reducible have cc := bel_cell hb cc) | (with_reducible have cc := bel_cell hb (nc3 _ (W.heap.size + 1 + 1) s.began _ (by simp))) | (with_reducible have cc := bel_cell hb (cell_dr (nc3 _ (W.heap.size + 1 + 1) s.began _ (by simp)))) | skip)
  go_wp2_with fail
  refine hK.out _ _ (sig_k hHeld hb) (fun hHeld => ?_)
  clear hK
  try simp only [List.setIfInBounds_toArray, List.set_cons_zero, List.set_cons_succ]
  refine wpAnyH_ready (rs := [46]) (by kernel_rfl) (by simp) ?_
  refine AllReadyH.cons (o := ⟨some 55, _, _, _, _, _⟩) rfl (fun K hK => ?_) AllReadyH.nil
  go_simp
  refine (HWa.out _ hHeld.out.at_).mono ?_
  rintro e w1 ⟨rfl, hb⟩
  (first | (with_reducible have cc := bel_cell hb (nc1 _ s.began _)) | (with_reducible have cc := bel_cell hb (nc1' _ s.began _)) | (with_reducible have cc := bel_cell hb cc) | (with_reducible have cc := bel_cell hb (nc3 _ (W.heap.size + 1 + 1) s.began _ (by simp))) | (with_reducible have cc := bel_cell hb (cell_dr (nc3 _ (W.heap.size + 1 + 1) s.began _ (by simp)))) | skip)
  go_wp2_with fail
  refine hK.out _ _ (sig_k hHeld hb) (fun hHeld => ?_)
  clear hK
  try simp only [List.setIfInBounds_toArray, List.set_cons_zero, List.set_cons_succ]
  refine wpAnyH_take (i := 47) (oi := ⟨some 56, _, _, _, _, _⟩) (v := ?v44) rfl (by kernel_rfl) (by kernel_rfl) (by kernel_rfl) (fun _ _ _ h => h) (Or.inl ⟨by rfl, ?y44⟩) (by assumption) ?r44
  case y44 => intro w hSw; clear hSw; go_simp; (try with_reducible rfl)
  simp only [Act.put, List.setIfInBounds_toArray, List.set_cons_zero, List.set_cons_succ]
  refine wpAnyH_ready (rs := [48]) (by kernel_rfl) (by simp) ?_
  refine AllReadyH.cons (o := ⟨none, _, _, _, _, _⟩) rfl (fun K hK => ?_) AllReadyH.nil
  obtain ⟨cs, hsz, hre⟩ := hHeld.out.re
  rw [if_pos (by rfl)]
  refine wp_store_row _ _ _ rfl (W.heap.size + 1) #[.bool d0, .bool ov, .bool lo, .bool d3, .int .u64 (x.fl : Int), .int .u64 (d5 : Int), .int .u64 (d6 : Int), .int .u64 (s.rounds : Int), .int .u64 (d8 : Int), .int .u64 (d9 : Int)] rfl rfl _ cs hre (by kernel_rfl) hsz (by simp [Value.oneCell']) ?_
  refine hK.out _ _ (sig_row hHeld #[.bool d0, .bool ov, .bool lo, .bool d3, .int .u64 (x.fl : Int), .int .u64 (d5 : Int), .int .u64 (d6 : Int), .int .u64 (s.rounds : Int), .int .u64 (d8 : Int), .int .u64 (d9 : Int)] rfl) (fun hHeld => ?_)
  clear hK
  try simp only [List.setIfInBounds_toArray, List.set_cons_zero, List.set_cons_succ]
  refine wpAnyH_done (by kernel_rfl) ?_ _
  refine NoPanic.normal ?_
  have F1 := Lib.hid (Blk.row hre #[.bool d0, .bool ov, .bool lo, .bool d3, .int .u64 (x.fl : Int), .int .u64 (d5 : Int), .int .u64 (d6 : Int), .int .u64 (s.rounds : Int), .int .u64 (d8 : Int), .int .u64 (d9 : Int)])
  have FW := Lib.hid hHeld.out.bel
  go_wp2_with fail
  exact bodyPost_ret (results_cell rfl _ _ (W.heap.size + 1) 64 _ _ rfl F1.out Tryd.underlying64 rfl (by kernel_rfl)) rfl ⟨by rw [HT.out], FW.out⟩
end Go.Proofs.YtpkbjfhicocogaaDoor

/- Contracts of package bbr over this translation: what changes an engine. -/
set_option linter.unusedVariables false
namespace Go.Proofs.YtpkbjfhicocogaaDoor
open Go.RowKit Cf

theorem EngAt.set {w : World} {B : Nat} {P : EP} {s s' : ES} (h : EngAt w B P s) (i : Nat) (u : Value) (he : (ecells P s).setIfInBounds i u = ecells P s') (hp : s'.p = s.p) (hf : s'.f = s.f) (hy : s'.y = s.y) (hn : s'.n = s.n) :
    EngAt (w.setCell ⟨P.b, i, none⟩ u) B P s' :=
  ⟨he ▸ h.e.set i u, hp ▸ h.p.set_other i u (h.p.ty h.e (by decide)), by
    obtain ⟨g, hg, k⟩ := h.f
    obtain ⟨c1, k1⟩ := k.row.head
    obtain ⟨c2, k2⟩ := k.row.body
    exact ⟨g, hg, hf ▸ ⟨k.head.set_other i u (k.head.ty h.e (by decide)), k.row.set_other (k1.ty h.e (by decide)) (k2.ty h.e (by decide))⟩⟩,
   hy ▸ Blk.set_other h.y i u (Blk.ty h.y h.e (by decide)), hn ▸ h.n.set_other i u (h.n.ty h.e (by decide)),
   h.gl.below (B := B) ((Below.refl _ _).setCell (p := ⟨P.b, i, none⟩) h.own.1 u) h.lo, h.lo, h.own⟩

/-- What a call leaves that changes an engine. -/
structure EPost (B : Nat) (P : EP) (v : Ending) (s' : ES) (W : World) (e : Ending) (w : World) : Prop where
  e : e = v
  at_ : EngAt w B P s'
  bel : Below B W w
  kt : KT W w

/-- What holds while an engine is changed by an event. -/
structure MutI (W : World) (B : Nat) (P : EP) (s : ES) (x : EvS) (w : World) : Prop where
  at_ : EngAt w B P s
  bel : Below B W w
  kt : KT W w
  ev : Blk w W.heap.size 36 x.cells
theorem MutI.to {W w w' : World} {B : Nat} {P : EP} {s : ES} {x : EvS} (h : MutI W B P s x w) (k : Below w.heap.size w w') : MutI W B P s x w' :=
  ⟨h.at_.keep k, bel_to h.bel k h.at_.size, h.kt.trans (KT.below k), h.ev.keep k⟩
theorem MutI.drew {W w : World} {B : Nat} {P : EP} {s : ES} {x : EvS} (h : MutI W B P s x w) : MutI W B P s x w.drew := h.to ((Drawn.drew w).below _)
theorem MutI.start {W : World} {B : Nat} {P : EP} {s : ES} (h : EngAt W B P s) (x : EvS) : MutI W B P s x (W.alloc (.cells x.cells 36)) :=
  ⟨h.keep ((Below.refl _ _).alloc (Nat.le_refl _) _), (Below.refl _ _).alloc h.size _, KT.below ((Below.refl _ _).alloc (Nat.le_refl _) _), Blk.new W _ _⟩
theorem MutI.set {W w : World} {B : Nat} {P : EP} {s s' : ES} {x : EvS} (h : MutI W B P s x w) (i : Nat) (u : Value) (he : (ecells P s).setIfInBounds i u = ecells P s') (hp : s'.p = s.p) (hf : s'.f = s.f) (hy : s'.y = s.y) (hn : s'.n = s.n) :
    MutI W B P s' x (w.setCell ⟨P.b, i, none⟩ u) :=
  ⟨h.at_.set i u he hp hf hy hn, h.bel.setCell (p := ⟨P.b, i, none⟩) h.at_.own.1 u, h.kt.set h.at_.e (by decide) i u, h.ev.set_other i u (h.ev.ty h.at_.e (by decide))⟩
theorem MutI.step {W w w' : World} {B : Nat} {P : EP} {s s' : ES} {x : EvS} {v e : Ending} (h : MutI W B P s x w) (k : EPost B P v s' w e w') : MutI W B P s' x w' :=
  ⟨k.at_, h.bel.trans k.bel, h.kt.trans k.kt, k.kt _ (by decide) _ _ h.ev⟩
theorem MutI.post {W w : World} {B : Nat} {P : EP} {s : ES} {x : EvS} {v : Ending} (h : MutI W B P s x w) : EPost B P v s W v w := ⟨rfl, h.at_, h.bel, h.kt⟩


theorem MutI.al {W w w' : World} {B : Nat} {P : EP} {s : ES} {x : EvS} {q : Obj} (h : MutI W B P s x w) (k : Below (w.alloc q).heap.size (w.alloc q) w') : MutI W B P s x w' := (h.to (al_be _ _)).to k
theorem MutI.ald {W w w' : World} {B : Nat} {P : EP} {s : ES} {x : EvS} {q : Obj} (h : MutI W B P s x w) (k : Below (w.alloc q).drew.heap.size (w.alloc q).drew w') : MutI W B P s x w' := (h.to (al_dr _ _)).to k

set_option maxHeartbeats 1000000 in
theorem en_count {B k : Nat} {P : EP} {s : ES} (x : EvS) (hx : x.ok) (W : World) (h : EngAt W B P s) (ho : s.ok k) :
    Calls Tryd.prog 25 #[.pointer (some ⟨P.b, 0, none⟩), x.val] W (EPost B P (.returned (.tuple #[])) (s.count x) W) := by
  have HA := Lib.hid (add_any s.acked x.ac ho.acked hx.ac)
  have HL := Lib.hid (add_any s.lost x.lo ho.lost hx.lo)
  have M0 := Lib.hid (MutI.start h x)
  unfold EvS.val
  clear h ho hx
  have HE : Hid (x.cells = #[.int .u64 (x.now : Int), .int .u64 (x.sd : Int), .int .u64 (x.si : Int), .int .u64 (x.sr : Int), .int .u64 (x.rt : Int), .bool x.sl, .bool x.sm, .int .u64 (x.dl : Int), .int .u64 (x.ac : Int), .int .u64 (x.lo : Int), .int .u64 (x.fl : Int)]) := Lib.hid rfl
  rw [HE.out] at M0 ⊢
  go_enter Tryd.func25, Tryd.ntmps25
  go_wp2_with fail
  generalize W.alloc (.cells #[.int .u64 (x.now : Int), .int .u64 (x.sd : Int), .int .u64 (x.si : Int), .int .u64 (x.sr : Int), .int .u64 (x.rt : Int), .bool x.sl, .bool x.sm, .int .u64 (x.dl : Int), .int .u64 (x.ac : Int), .int .u64 (x.lo : Int), .int .u64 (x.fl : Int)] 36) = w0 at *
  have M1 := Lib.hid M0.out.drew
  have e8 := M1.out.ev.cell (i := 8) (v := .int .u64 (x.ac : Int)) rfl
  have c16 := (M1.out.at_).e.cell (i := 16) (v := .int .u64 (s.acked : Int)) rfl
  go_region_with (first
    | (go_at_call 45; (refine (HA.out _ _ (by first | exact (nc2 _ _ _ _).1 | exact cell_dr (nc2 _ _ _ _).1) (by first | exact (nc2 _ _ _ _).2 | exact cell_dr (nc2 _ _ _ _).2)).mono ?_); rintro e w2 ⟨rfl, hb⟩; have M2 : Hid (MutI W B P _ x w2) := (by first | exact Lib.hid (M1.out.al hb) | exact Lib.hid (M1.out.ald hb)); have d16 := M2.out.at_.e.cell (i := 16) (v := .int .u64 (s.acked : Int)) rfl; have y16 := M2.out.at_.e.free 16))
  all_goals
    have M3 := Lib.hid (M2.out.set (s' := { s with acked := Pl.addS s.acked x.ac }) 16 (.int .u64 ((Pl.addS s.acked x.ac : Nat) : Int)) rfl rfl rfl rfl rfl)
    clear M0 M1 M2 e8 c16 d16 y16 hb
    generalize w2.setCell ⟨P.b, 16, none⟩ (.int .u64 ((Pl.addS s.acked x.ac : Nat) : Int)) = w3 at *
    go_wp2_with fail
    have M4 := Lib.hid M3.out.drew
    have e9 := M4.out.ev.cell (i := 9) (v := .int .u64 (x.lo : Int)) rfl
    have c17 := M4.out.at_.e.cell (i := 17) (v := .int .u64 (s.lost : Int)) rfl
    go_region_with (first
      | (go_at_call 45; (refine (HL.out _ _ (by first | exact (nc2 _ _ _ _).1 | exact cell_dr (nc2 _ _ _ _).1) (by first | exact (nc2 _ _ _ _).2 | exact cell_dr (nc2 _ _ _ _).2)).mono ?_); rintro e w2 ⟨rfl, hb⟩; have M5 : Hid (MutI W B P _ x w2) := (by first | exact Lib.hid (M4.out.al hb) | exact Lib.hid (M4.out.ald hb)); have d17 := M5.out.at_.e.cell (i := 17) (v := .int .u64 (s.lost : Int)) rfl; have y17 := M5.out.at_.e.free 17))
    all_goals
      have M6 := Lib.hid (M5.out.set (s' := s.count x) 17 (.int .u64 ((Pl.addS s.lost x.lo : Nat) : Int)) rfl rfl rfl rfl rfl)
      go_wp2_with fail
      go_end0
      exact M6.out.post

end Go.Proofs.YtpkbjfhicocogaaDoor
