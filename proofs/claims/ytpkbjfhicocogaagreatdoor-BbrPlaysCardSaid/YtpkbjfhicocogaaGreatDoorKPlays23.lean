/- 7 texts put together: what each one says stands ahead of it. -/
import Derived.Test.YtpkbjfhicocogaaGreatDoorKPlays12
import Derived.Test.YtpkbjfhicocogaaGreatDoorKPlays13
import Derived.Test.YtpkbjfhicocogaaGreatDoorKPlays10
import Derived.Test.YtpkbjfhicocogaaGreatDoorKPlays16
import Derived.Test.YtpkbjfhicocogaaGreatDoorKPlays19
import Derived.Test.YtpkbjfhicocogaaGreatDoorKPlays20
import Derived.Test.YtpkbjfhicocogaaGreatDoorKPlays21
import Derived.Test.YtpkbjfhicocogaaGreatDoorKPlays08
import Derived.Test.YtpkbjfhicocogaaGreatDoorKPlays22
import Derived.Deep.RegionHeld3
import Derived.BigRegion
import Derived.Deep.QuietTactic
import Derived.BigQuiet
/- An engine in plain words: its state, its steps, what it tells; and that its numbers stay within 64 bits. -/
set_option linter.unusedVariables false
namespace Go.Proofs.YtpkbjfhicocogaaGreatDoor
open Go.RowKit Cf

abbrev M64 : Nat := 18446744073709551615

/-- An event. -/
structure EvS where
  now : Nat
  sd : Nat
  si : Nat
  sr : Nat
  rt : Nat
  sl : Bool
  sm : Bool
  dl : Nat
  ac : Nat
  lo : Nat
  fl : Nat
structure EvS.ok (x : EvS) : Prop where
  now : x.now ≤ 18446744073709551615
  sd : x.sd ≤ 18446744073709551615
  si : x.si ≤ 18446744073709551615
  sr : x.sr ≤ 18446744073709551615
  rt : x.rt ≤ 18446744073709551615
  dl : x.dl ≤ 18446744073709551615
  ac : x.ac ≤ 18446744073709551615
  lo : x.lo ≤ 18446744073709551615
  fl : x.fl ≤ 18446744073709551615

/-- An engine. -/
structure ES where
  c : Setup
  p : Pi
  bs : BS
  f : FS
  y : CY
  n : Ct
  st : Int
  began : Nat
  rounds : Nat
  acked : Nat
  lost : Nat
  cwnd : Nat
  kept : Nat
  ended : Nat

def firstC (c : Setup) : Nat := Pl.mulS (c 1) (c 0)
def leastC (c : Setup) : Nat := Pl.mulS 4 (c 0)
def ES.trip (s : ES) : Nat := if s.f.some = true then s.f.best.x else 1000
def ES.rate (s : ES) : Nat := if s.y.best = 0 then Pl.shareS (firstC s.c) 1000000 s.trip else s.y.best
def ES.holds (s : ES) : Nat := Pl.overS s.rate s.trip 1000000
def ES.uses (s : ES) : Nat := Pl.overS (s.bs.limit s.rate) s.trip 1000000
def ES.pace (s : ES) : Nat := min (max (paceG (stG s.st) (s.bs.limit s.rate)) (leastC s.c)) 1099511627776
def ES.quant (s : ES) : Nat := quantumC (s.c 0) s.pace
def ES.stale (s : ES) (now : Nat) : Bool := s.f.some && decide (s.c 3 / 2 < Pl.subS now (max s.f.best.t s.ended))

def ES.count (s : ES) (x : EvS) : ES := { s with acked := Pl.addS s.acked x.ac, lost := Pl.addS s.lost x.lo }
def ES.rput (s : ES) (x : EvS) : Bool := !x.sl || decide (s.y.best ≤ x.sr)
def ES.mea (s : ES) (x : EvS) : ES :=
  if x.sm = true then { s with f := s.f.put x.now x.rt, y := if s.rput x = true then s.y.put [x.sr] else s.y, n := s.n.ackS (Pl.subS x.dl x.sd) x.dl }
  else { s with f := s.f.to x.now }
def ES.over (s : ES) (x : EvS) : Bool := x.sm && s.n.ackB (Pl.subS x.dl x.sd)
def ES.lossy (s : ES) : Bool := decide (Pl.mulS (s.c 5) (Pl.addS s.acked s.lost) < Pl.mulS s.lost 1000)
def ES.settle (s : ES) : ES := { s with acked := 0, lost := 0, rounds := Pl.addS s.rounds 1 }
def ES.pput (s : ES) (o l : Bool) : ES := { s with p := s.p.put s.y.best o l }
def ES.yield (s : ES) (x : EvS) : ES := { s with bs := if s.st = 0 ∨ s.st = 5 then s.bs.pull x.fl s.holds else s.bs.lose x.sd x.sr s.cwnd }
def ES.sig (s : ES) (x : EvS) (o l : Bool) : SigS := ⟨s.p.full, o, l, s.stale x.now, x.fl, s.holds, s.bs.room, s.rounds, Pl.subS x.now s.began, waitS s.st s.y.n (s.c 4)⟩
def ES.side (s : ES) (now : Nat) (t : Int) : ES :=
  if s.st = 6 then { s with ended := now, cwnd := max s.cwnd s.kept }
  else if t = 6 then { s with kept := s.cwnd }
  else if t = 4 then { s with bs := s.bs.short }
  else if s.st = 5 ∧ t = 2 then { s with y := s.y.next }
  else s
def ES.turn (s : ES) (now : Nat) (t : Int) : ES := if t = s.st then s else { s.side now t with st := t, began := now, rounds := 0 }
def ES.push (s : ES) (x : EvS) : ES := { s with bs := s.bs.push x.ac }
def ES.o1 (s : ES) (ac : Nat) : Nat := if s.st ≠ 0 ∨ s.p.full = true then min (Pl.addS s.cwnd ac) (Pl.addS (windowG (stG s.st) s.uses) s.quant) else Pl.addS s.cwnd ac
def ES.o2 (s : ES) (ac : Nat) : Nat := s.bs.cap [s.o1 ac]
def ES.o3 (s : ES) (ac : Nat) : Nat := if s.st = 2 ∨ s.st = 3 then min (s.o2 ac) s.bs.room else if s.st = 6 then min (s.o2 ac) (windowG (stG s.st) s.uses) else s.o2 ac
def ES.open (s : ES) (ac : Nat) : Nat := min (max (s.o3 ac) (leastC s.c)) 72057594037927936

/-- The steps of an event, one behind the other. -/
def ES.e3 (s : ES) (x : EvS) : ES := if (s.count x).over x = true then ((s.count x).mea x).settle else (s.count x).mea x
def ES.eo (s : ES) (x : EvS) : Bool := (s.count x).over x
def ES.el (s : ES) (x : EvS) : Bool := s.eo x && ((s.count x).mea x).lossy
def ES.e4 (s : ES) (x : EvS) : ES := if x.sm = true then (s.e3 x).pput (s.eo x) x.sl else s.e3 x
def ES.e5 (s : ES) (x : EvS) : ES := if s.el x = true then (s.e4 x).yield x else s.e4 x
def ES.e6 (s : ES) (x : EvS) : ES := (s.e5 x).turn x.now (nextS (s.e5 x).st ((s.e5 x).sig x (s.eo x) (s.el x)))
def ES.e7 (s : ES) (x : EvS) : ES := if (s.e6 x).st = 5 ∧ s.el x = false then (s.e6 x).push x else s.e6 x
def ES.on (s : ES) (x : EvS) : ES := { s.e7 x with cwnd := (s.e7 x).open x.ac }

structure ES.ok (s : ES) (k : Nat) : Prop where
  c : ∀ i, s.c i ≤ 18446744073709551615
  p : s.p.ok
  bs : s.bs.ok
  f : s.f.ok
  fn : s.f.l.length ≤ k
  fx : ∀ r ∈ s.f.l, r.x ≤ 18446744073709551615
  ya : s.y.a ≤ 18446744073709551615
  yt : s.y.t ≤ 18446744073709551615
  yn : s.y.n ≤ 18446744073709551615
  nm : s.n.mark ≤ 18446744073709551615
  nn : s.n.n ≤ k
  st : 0 ≤ s.st ∧ s.st ≤ 6
  began : s.began ≤ 18446744073709551615
  rounds : s.rounds ≤ 18446744073709551615
  acked : s.acked ≤ 18446744073709551615
  lost : s.lost ≤ 18446744073709551615
  cwnd : s.cwnd ≤ 18446744073709551615
  kept : s.kept ≤ 18446744073709551615
  ended : s.ended ≤ 18446744073709551615

theorem FS.to_x {f : FS} {t : Nat} {B : Nat} (h : ∀ r ∈ f.l, r.x ≤ B) : ∀ r ∈ (f.to t).l, r.x ≤ B := by
  unfold FS.to; split
  · exact h
  · exact fun r hr => h r ((List.dropWhile_sublist _).subset hr)
theorem FS.put_x {f : FS} {t x : Nat} {B : Nat} (h : ∀ r ∈ f.l, r.x ≤ B) (hx : x ≤ B) : ∀ r ∈ (f.put t x).l, r.x ≤ B := by
  have h2 := FS.to_x (t := t) h
  unfold FS.put; split
  · exact h
  · intro r hr
    simp only [List.mem_append, List.mem_singleton] at hr
    rcases hr with hr | rfl
    · obtain ⟨q, hq, _⟩ := popL_split (bt f.least ⟨t, x⟩) (f.to t).l
      exact h2 r (by rw [hq]; exact List.mem_append_left _ hr)
    · exact hx
theorem FS.best_x {f : FS} {B : Nat} (h : ∀ r ∈ f.l, r.x ≤ B) : f.best.x ≤ B := by
  unfold FS.best
  match hl : f.l with
  | [] => exact Nat.zero_le _
  | r :: _ => exact h r (by rw [hl]; exact List.mem_cons_self)
theorem FS.best_t {f : FS} (h : f.ok) : f.best.t ≤ 18446744073709551615 := by
  unfold FS.best
  match hl : f.l with
  | [] => exact Nat.zero_le _
  | r :: _ => exact h.l r (by rw [hl]; exact List.mem_cons_self)
theorem CY.best_le {y : CY} {B : Nat} (ha : y.a ≤ B) (ht : y.t ≤ B) : y.best ≤ B := by unfold CY.best; omega

theorem ES.trip_le {s : ES} {k : Nat} (h : s.ok k) : s.trip ≤ 18446744073709551615 := by
  have := FS.best_x h.fx
  unfold ES.trip; split <;> omega
theorem ES.rate_le {s : ES} {k : Nat} (h : s.ok k) : s.rate ≤ 18446744073709551615 := by
  have := CY.best_le h.ya h.yt
  have := Pl.shareS_le (firstC s.c) 1000000 s.trip
  unfold ES.rate; split <;> omega
theorem ES.limit_le {s : ES} {k : Nat} (h : s.ok k) : s.bs.limit s.rate ≤ 18446744073709551615 := by
  have := ES.rate_le h
  unfold BS.limit; omega
theorem ES.holds_le (s : ES) : s.holds ≤ 18446744073709551615 := Pl.overS_le _ _ _
theorem ES.uses_le (s : ES) : s.uses ≤ 18446744073709551615 := Pl.overS_le _ _ _
theorem ES.pace_le (s : ES) : s.pace ≤ 1099511627776 := Nat.min_le_right _ _
theorem paceG_le (k x : Nat) : paceG k x ≤ 18446744073709551615 := Pl.shareS_le _ _ _
theorem windowG_le (k x : Nat) : windowG k x ≤ 18446744073709551615 := Pl.overS_le _ _ _
theorem firstC_le (c : Setup) : firstC c ≤ 18446744073709551615 := Pl.mulS_le _ _
theorem leastC_le (c : Setup) : leastC c ≤ 18446744073709551615 := Pl.mulS_le _ _
theorem ES.quant_le (s : ES) : s.quant ≤ 18446744073709551615 := by
  have := Pl.mulS_le 64 (s.c 0)
  unfold ES.quant quantumC; omega
theorem BS.room_le {b : BS} (h : b.ok) : b.room ≤ 18446744073709551615 := by
  unfold BS.room; split
  · exact Nat.le_refl _
  · exact Pl.shareS_le _ _ _
theorem waitS_le (s : Int) (n p : Nat) (hp : p ≤ 18446744073709551615) : waitS s n p ≤ 18446744073709551615 := by
  have : n % 8 < 8 := Nat.mod_lt _ (by omega)
  unfold waitS; split
  · omega
  · split <;> omega
theorem nextS_in (s : Int) (x : SigS) (h : 0 ≤ s ∧ s ≤ 6) : 0 ≤ nextS s x ∧ nextS s x ≤ 6 := by
  have h1 := (next_follows s x).2
  have h2 : rightI s = true := by unfold rightI; simp; omega
  rw [h2] at h1
  unfold rightI at h1
  simpa using h1
theorem ES.sig_ok {s : ES} {k : Nat} (h : s.ok k) {x : EvS} (hx : x.ok) (o l : Bool) : (s.sig x o l).ok :=
  ⟨hx.fl, s.holds_le, BS.room_le h.bs, h.rounds, Nat.le_trans (Pl.subS_le _ _) hx.now, waitS_le _ _ _ (h.c 4)⟩

theorem ES.count_ok {s : ES} {k : Nat} (h : s.ok k) (x : EvS) : (s.count x).ok k :=
  { h with acked := Pl.addS_le _ _, lost := Pl.addS_le _ _ }
theorem ES.mea_ok {s : ES} {k : Nat} (h : s.ok k) {x : EvS} (hx : x.ok) (hk : k ≤ 900) : (s.mea x).ok (k + 1) := by
  have hn := h.fn
  have hb : s.n.n ≤ k + 1 := Nat.le_succ_of_le h.nn
  unfold ES.mea
  split
  · refine { h with f := FS.put_ok h.f hx.now (by omega), fn := Nat.le_trans (FS.put_len _ _ _) (by omega), fx := FS.put_x h.fx hx.rt, ya := ?_, yt := ?_, yn := ?_, nm := ?_, nn := ?_ }
    · dsimp only; split
      · exact h.ya
      · exact h.ya
    · dsimp only; split
      · exact mxs_lt h.yt (by simp; exact hx.sr)
      · exact h.yt
    · dsimp only; split
      · exact h.yn
      · exact h.yn
    · unfold Ct.ackS; dsimp only; split
      · exact hx.dl
      · exact h.nm
    · have := Ct.ackS_n s.n (Pl.subS x.dl x.sd) x.dl
      have := h.nn
      dsimp only; omega
  · exact { h with f := FS.to_ok h.f hx.now, fn := Nat.le_trans (FS.to_len _ _) (by omega), fx := FS.to_x h.fx, nn := hb }
theorem ES.settle_ok {s : ES} {k : Nat} (h : s.ok k) : s.settle.ok k := { h with acked := Nat.zero_le _, lost := Nat.zero_le _, rounds := Pl.addS_le _ _ }
theorem ES.pput_ok {s : ES} {k : Nat} (h : s.ok k) (o l : Bool) : (s.pput o l).ok k := { h with p := Pi.put_ok h.p (CY.best_le h.ya h.yt) o l }
theorem ES.yield_ok {s : ES} {k : Nat} (h : s.ok k) {x : EvS} (hx : x.ok) : (s.yield x).ok k :=
  { h with bs := by unfold ES.yield; dsimp only; split; exact BS.pull_ok h.bs hx.fl; exact BS.lose_ok h.bs hx.sd hx.sr }
theorem BS.short_ok {b : BS} (h : b.ok) : b.short.ok := ⟨h.hi, Nat.le_refl _, Nat.le_refl _⟩
theorem ES.side_ok {s : ES} {k : Nat} (h : s.ok k) {now : Nat} (hn : now ≤ 18446744073709551615) (t : Int) : (s.side now t).ok k := by
  have h1 := h.cwnd
  have h2 := h.kept
  unfold ES.side
  split
  · exact { h with ended := hn, cwnd := by dsimp only; omega }
  · split
    · exact { h with kept := h.cwnd }
    · split
      · exact { h with bs := BS.short_ok h.bs }
      · split
        · refine { h with ya := h.yt, yt := Nat.zero_le _, yn := ?_ }
          have := Nat.mod_lt (s.y.n + 1) (show 0 < 18446744073709551616 by omega)
          show (s.y.n + 1) % 18446744073709551616 ≤ _
          omega
        · exact h
theorem ES.turn_ok {s : ES} {k : Nat} (h : s.ok k) {now : Nat} (hn : now ≤ 18446744073709551615) {t : Int} (ht : 0 ≤ t ∧ t ≤ 6) : (s.turn now t).ok k := by
  unfold ES.turn
  split
  · exact h
  · exact { ES.side_ok h hn t with st := ht, began := hn, rounds := Nat.zero_le _ }
theorem ES.push_ok {s : ES} {k : Nat} (h : s.ok k) (x : EvS) : (s.push x).ok k := { h with bs := BS.push_ok h.bs _ }
theorem ES.open_le (s : ES) (ac : Nat) : s.open ac ≤ 72057594037927936 := Nat.min_le_right _ _
theorem ES.e3_ok {s : ES} {k : Nat} (h : s.ok k) {x : EvS} (hx : x.ok) (hk : k ≤ 900) : (s.e3 x).ok (k + 1) := by
  have := ES.mea_ok (ES.count_ok h x) hx hk
  unfold ES.e3; split
  · exact ES.settle_ok this
  · exact this
theorem ES.e4_ok {s : ES} {k : Nat} (h : s.ok k) {x : EvS} (hx : x.ok) (hk : k ≤ 900) : (s.e4 x).ok (k + 1) := by
  have := ES.e3_ok h hx hk
  unfold ES.e4; split
  · exact ES.pput_ok this _ _
  · exact this
theorem ES.e5_ok {s : ES} {k : Nat} (h : s.ok k) {x : EvS} (hx : x.ok) (hk : k ≤ 900) : (s.e5 x).ok (k + 1) := by
  have := ES.e4_ok h hx hk
  unfold ES.e5; split
  · exact ES.yield_ok this hx
  · exact this
theorem ES.e6_ok {s : ES} {k : Nat} (h : s.ok k) {x : EvS} (hx : x.ok) (hk : k ≤ 900) : (s.e6 x).ok (k + 1) := by
  have h5 := ES.e5_ok h hx hk
  exact ES.turn_ok h5 hx.now (nextS_in _ _ h5.st)
theorem ES.e7_ok {s : ES} {k : Nat} (h : s.ok k) {x : EvS} (hx : x.ok) (hk : k ≤ 900) : (s.e7 x).ok (k + 1) := by
  have := ES.e6_ok h hx hk
  unfold ES.e7; split
  · exact ES.push_ok this _
  · exact this
theorem ES.on_ok {s : ES} {k : Nat} (h : s.ok k) {x : EvS} (hx : x.ok) (hk : k ≤ 900) : (s.on x).ok (k + 1) :=
  { ES.e7_ok h hx hk with cwnd := Nat.le_trans (ES.open_le _ _) (by omega) }

/-- A new one. -/
def ES.new (c : Setup) : ES := ⟨c, Pi.zero, BS.none, ⟨c 3, 0, true, []⟩, ⟨0, 0, 0⟩, Ct.zero, 0, 0, 0, 0, 0, firstC c, 0, 0⟩
theorem ES.new_ok {c : Setup} (h : ∀ i, c i ≤ 18446744073709551615) : (ES.new c).ok 0 :=
  ⟨h, ⟨Nat.zero_le _, Nat.zero_le _⟩, BS.none_ok, ⟨h 3, Nat.zero_le _, by simp [ES.new], by simp [ES.new]⟩, Nat.le_refl _, by simp [ES.new], Nat.zero_le _, Nat.zero_le _, Nat.zero_le _, Nat.zero_le _, Nat.le_refl _, ⟨show (0 : Int) ≤ 0 by decide, show (0 : Int) ≤ 6 by decide⟩, Nat.zero_le _, Nat.zero_le _, Nat.zero_le _, Nat.zero_le _, firstC_le _, Nat.zero_le _, Nat.zero_le _⟩
end Go.Proofs.YtpkbjfhicocogaaGreatDoor

/- An engine in memory; contracts of package bbr over this translation: what only reads. -/
set_option linter.unusedVariables false
namespace Go.Proofs.YtpkbjfhicocogaaGreatDoor
open Go.RowKit Cf

/-- Where an engine's pieces lie: itself, its pipe, its filter (with its row), its cycle, its counter. -/
structure EP where
  b : Nat
  p : Nat
  a : Nat
  r : Nat
  y : Nat
  n : Nat
def ecells (P : EP) (s : ES) : Array Value := #[.int .u64 (s.c 0 : Int), .int .u64 (s.c 1 : Int), .int .u64 (s.c 2 : Int), .int .u64 (s.c 3 : Int), .int .u64 (s.c 4 : Int), .int .u64 (s.c 5 : Int), .pointer (some ⟨P.p, 0, none⟩), .int .u64 (s.bs.hi : Int), .int .u64 (s.bs.lo : Int), .int .u64 (s.bs.bw : Int), .pointer (some ⟨P.a, 0, none⟩), .pointer (some ⟨P.y, 0, none⟩), .pointer (some ⟨P.n, 0, none⟩), .int .i64 s.st, .int .u64 (s.began : Int), .int .u64 (s.rounds : Int), .int .u64 (s.acked : Int), .int .u64 (s.lost : Int), .int .u64 (s.cwnd : Int), .int .u64 (s.kept : Int), .int .u64 (s.ended : Int)]
def etypes : List TypeId := [62, 104, 110, 149, 108, 113, 115]
/-- All blocks of other types are as they were. -/
def KT (w w' : World) : Prop := ∀ T, T ∉ etypes → ∀ b cs, Blk w b T cs → Blk w' b T cs
theorem KT.refl (w : World) : KT w w := fun _ _ _ _ h => h
theorem KT.trans {a b c : World} (h : KT a b) (k : KT b c) : KT a c := fun T hT x cs q => k T hT x cs (h T hT x cs q)
theorem KT.below {w w' : World} (h : Below w.heap.size w w') : KT w w' := fun _ _ _ _ q => q.keep h
theorem KT.gr {w w' : World} {b : Nat} {U : TypeId} {ds : Array Value} (h : w.grownBy w' (some b)) (k : Blk w b U ds) (hU : U ∈ etypes) : KT w w' :=
  fun T hT x cs q => q.grown h (fun e => by have e' : x = b := by simpa using e
                                            exact hT ((show T = U from by have := q.ty k; exact Classical.not_not.1 (fun hne => this hne e')) ▸ hU))
theorem KT.set {w w0 : World} {b : Nat} {U : TypeId} {ds : Array Value} (k0 : KT w0 w) (k : Blk w b U ds) (hU : U ∈ etypes) (i : Nat) (u : Value) : KT w0 (w.setCell ⟨b, i, none⟩ u) :=
  k0.trans (KT.gr (gr_set (gr_refl _ _) i u) k hU)

/-- An engine in memory: all of it at B and behind it; and the table of gains. -/
structure EngAt (w : World) (B : Nat) (P : EP) (s : ES) : Prop where
  e : Blk w P.b 62 (ecells P s)
  p : Blk w P.p 104 s.p.cells
  f : ∃ g, B ≤ g ∧ FlAt w P.a P.r g s.f
  y : CyAt w P.y s.y
  n : Blk w P.n 115 s.n.cells
  gl : Gl w
  lo : 0 < B
  own : B ≤ P.b ∧ B ≤ P.p ∧ B ≤ P.a ∧ B ≤ P.r ∧ B ≤ P.y ∧ B ≤ P.n
theorem EngAt.keep {w w' : World} {B : Nat} {P : EP} {s : ES} (h : EngAt w B P s) (k : Below w.heap.size w w') : EngAt w' B P s :=
  ⟨h.e.keep k, h.p.keep k, by obtain ⟨g, a, b⟩ := h.f; exact ⟨g, a, b.keep k⟩, Blk.keep h.y k, h.n.keep k, h.gl.keep k, h.lo, h.own⟩
theorem EngAt.size {w : World} {B : Nat} {P : EP} {s : ES} (h : EngAt w B P s) : B ≤ w.heap.size := Nat.le_trans h.own.1 (Nat.le_of_lt h.e.lt)
theorem Gl.below {w w' : World} {B : Nat} (h : Gl w) (hb : Below B w w') (hB : 0 < B) : Gl w' := fun k hk =>
  ⟨(hb.cell (p := ⟨0, _, none⟩) hB).trans (h k hk).1, (hb.cell (p := ⟨0, _, none⟩) hB).trans (h k hk).2⟩

/-- What holds while a call reads an engine. -/
structure EngI (W : World) (B : Nat) (P : EP) (s : ES) (w : World) : Prop where
  at_ : EngAt w B P s
  bel : Below W.heap.size W w
theorem EngI.to {W w w' : World} {B : Nat} {P : EP} {s : ES} (h : EngI W B P s w) (k : Below w.heap.size w w') : EngI W B P s w' := ⟨h.at_.keep k, bel_to h.bel k h.bel.size⟩
theorem EngI.drew {W w : World} {B : Nat} {P : EP} {s : ES} (h : EngI W B P s w) : EngI W B P s w.drew := h.to ((Drawn.drew w).below _)
theorem EngI.start {W : World} {B : Nat} {P : EP} {s : ES} (h : EngAt W B P s) : EngI W B P s W := ⟨h, Below.refl _ _⟩

theorem ei_bs {W w w' : World} {B : Nat} {P : EP} {s : ES} (h : Hid (EngI W B P s w)) (k : Below w.heap.size w w') : w'.cell? ⟨P.b, 7, none⟩ = some (.int .u64 (s.bs.hi : Int)) ∧ w'.cell? ⟨P.b, 8, none⟩ = some (.int .u64 (s.bs.lo : Int)) ∧ w'.cell? ⟨P.b, 9, none⟩ = some (.int .u64 (s.bs.bw : Int)) ∧ Hid (EngI W B P s w') :=
  have q := h.out.to k
  ⟨q.at_.e.cell rfl, q.at_.e.cell rfl, q.at_.e.cell rfl, q⟩
theorem ei_bs0 {W w : World} {B : Nat} {P : EP} {s : ES} (h : Hid (EngI W B P s w)) : w.cell? ⟨P.b, 7, none⟩ = some (.int .u64 (s.bs.hi : Int)) ∧ w.cell? ⟨P.b, 8, none⟩ = some (.int .u64 (s.bs.lo : Int)) ∧ w.cell? ⟨P.b, 9, none⟩ = some (.int .u64 (s.bs.bw : Int)) ∧ Hid (EngI W B P s w) :=
  ⟨h.out.at_.e.cell rfl, h.out.at_.e.cell rfl, h.out.at_.e.cell rfl, h⟩

theorem ei_sb {W w w' : World} {B : Nat} {P : EP} {s : ES} (h : Hid (EngI W B P s w)) (k : Below w.heap.size w w') : w'.cell? ⟨P.b, 13, none⟩ = some (.int .i64 s.st) ∧ w'.cell? ⟨P.b, 7, none⟩ = some (.int .u64 (s.bs.hi : Int)) ∧ w'.cell? ⟨P.b, 8, none⟩ = some (.int .u64 (s.bs.lo : Int)) ∧ w'.cell? ⟨P.b, 9, none⟩ = some (.int .u64 (s.bs.bw : Int)) ∧ Hid (EngI W B P s w') :=
  have q := h.out.to k
  ⟨q.at_.e.cell rfl, q.at_.e.cell rfl, q.at_.e.cell rfl, q.at_.e.cell rfl, q⟩
theorem ei_sb0 {W w : World} {B : Nat} {P : EP} {s : ES} (h : Hid (EngI W B P s w)) : w.cell? ⟨P.b, 13, none⟩ = some (.int .i64 s.st) ∧ w.cell? ⟨P.b, 7, none⟩ = some (.int .u64 (s.bs.hi : Int)) ∧ w.cell? ⟨P.b, 8, none⟩ = some (.int .u64 (s.bs.lo : Int)) ∧ w.cell? ⟨P.b, 9, none⟩ = some (.int .u64 (s.bs.bw : Int)) ∧ Hid (EngI W B P s w) :=
  ⟨h.out.at_.e.cell rfl, h.out.at_.e.cell rfl, h.out.at_.e.cell rfl, h.out.at_.e.cell rfl, h⟩

theorem ei_c {W w w' : World} {B : Nat} {P : EP} {s : ES} (h : Hid (EngI W B P s w)) (k : Below w.heap.size w w') : w'.cell? ⟨P.b, 0, none⟩ = some (.int .u64 (s.c 0 : Int)) ∧ w'.cell? ⟨P.b, 1, none⟩ = some (.int .u64 (s.c 1 : Int)) ∧ w'.cell? ⟨P.b, 2, none⟩ = some (.int .u64 (s.c 2 : Int)) ∧ w'.cell? ⟨P.b, 3, none⟩ = some (.int .u64 (s.c 3 : Int)) ∧ w'.cell? ⟨P.b, 4, none⟩ = some (.int .u64 (s.c 4 : Int)) ∧ w'.cell? ⟨P.b, 5, none⟩ = some (.int .u64 (s.c 5 : Int)) ∧ Hid (EngI W B P s w') :=
  have q := h.out.to k
  ⟨q.at_.e.cell rfl, q.at_.e.cell rfl, q.at_.e.cell rfl, q.at_.e.cell rfl, q.at_.e.cell rfl, q.at_.e.cell rfl, q⟩
theorem ei_c0 {W w : World} {B : Nat} {P : EP} {s : ES} (h : Hid (EngI W B P s w)) : w.cell? ⟨P.b, 0, none⟩ = some (.int .u64 (s.c 0 : Int)) ∧ w.cell? ⟨P.b, 1, none⟩ = some (.int .u64 (s.c 1 : Int)) ∧ w.cell? ⟨P.b, 2, none⟩ = some (.int .u64 (s.c 2 : Int)) ∧ w.cell? ⟨P.b, 3, none⟩ = some (.int .u64 (s.c 3 : Int)) ∧ w.cell? ⟨P.b, 4, none⟩ = some (.int .u64 (s.c 4 : Int)) ∧ w.cell? ⟨P.b, 5, none⟩ = some (.int .u64 (s.c 5 : Int)) ∧ Hid (EngI W B P s w) :=
  ⟨h.out.at_.e.cell rfl, h.out.at_.e.cell rfl, h.out.at_.e.cell rfl, h.out.at_.e.cell rfl, h.out.at_.e.cell rfl, h.out.at_.e.cell rfl, h⟩

theorem ei_st {W w w' : World} {B : Nat} {P : EP} {s : ES} (h : Hid (EngI W B P s w)) (k : Below w.heap.size w w') : w'.cell? ⟨P.b, 13, none⟩ = some (.int .i64 s.st) ∧ Hid (EngI W B P s w') :=
  have q := h.out.to k
  ⟨q.at_.e.cell rfl, q⟩
theorem ei_st0 {W w : World} {B : Nat} {P : EP} {s : ES} (h : Hid (EngI W B P s w)) : w.cell? ⟨P.b, 13, none⟩ = some (.int .i64 s.st) ∧ Hid (EngI W B P s w) :=
  ⟨h.out.at_.e.cell rfl, h⟩

theorem ei_e3 {W w w' : World} {B : Nat} {P : EP} {s : ES} (h : Hid (EngI W B P s w)) (k : Below w.heap.size w w') : w'.cell? ⟨P.b, 20, none⟩ = some (.int .u64 (s.ended : Int)) ∧ w'.cell? ⟨P.b, 3, none⟩ = some (.int .u64 (s.c 3 : Int)) ∧ Hid (EngI W B P s w') :=
  have q := h.out.to k
  ⟨q.at_.e.cell rfl, q.at_.e.cell rfl, q⟩
theorem ei_e30 {W w : World} {B : Nat} {P : EP} {s : ES} (h : Hid (EngI W B P s w)) : w.cell? ⟨P.b, 20, none⟩ = some (.int .u64 (s.ended : Int)) ∧ w.cell? ⟨P.b, 3, none⟩ = some (.int .u64 (s.c 3 : Int)) ∧ Hid (EngI W B P s w) :=
  ⟨h.out.at_.e.cell rfl, h.out.at_.e.cell rfl, h⟩

theorem conf_First (c : Setup) (w : World) (hc : ∀ i, c i ≤ 18446744073709551615) :
    Calls Tryz.prog 24 #[.agg (ccells c)] w fun e w' => e = .returned (.int .u64 (firstC c : Int)) ∧ Below w.heap.size w w' := by
  have HP : ∀ w', Calls Tryz.prog 59 #[.agg (ccells c), .int .u64 (c 1 : Int)] w' fun e w'' => e = .returned (.int .u64 (firstC c : Int)) ∧ Below w'.heap.size w' w'' := fun w' => conf_packets c (c 1) w' (hc 0) (hc 1)
  have HP := Lib.hid HP
  have G0 := Lib.hid ((Below.refl w.heap.size w).alloc (Nat.le_refl _) (.cells (ccells c) 24))
  clear hc
  generalize firstC c = q at *
  simp only [ccells] at HP G0 ⊢
  go_enter Tryz.func24, Tryz.ntmps24
  go_wp2_with fail
  refine (HP.out _).mono ?_
  rintro e w1 ⟨rfl, h1⟩
  have B1 := Lib.hid (bel_to G0.out h1 G0.out.size)
  clear h1 G0 HP
  go_wp2_with fail
  go_ret
  exact ⟨rfl, B1.out⟩

theorem conf_Least (c : Setup) (w : World) (hc : ∀ i, c i ≤ 18446744073709551615) :
    Calls Tryz.prog 55 #[.agg (ccells c)] w fun e w' => e = .returned (.int .u64 (leastC c : Int)) ∧ Below w.heap.size w w' := by
  have HP : ∀ w', Calls Tryz.prog 59 #[.agg (ccells c), .int .u64 4] w' fun e w'' => e = .returned (.int .u64 (leastC c : Int)) ∧ Below w'.heap.size w' w'' := fun w' => conf_packets c (4) w' (hc 0) (by omega)
  have HP := Lib.hid HP
  have G0 := Lib.hid ((Below.refl w.heap.size w).alloc (Nat.le_refl _) (.cells (ccells c) 24))
  clear hc
  generalize leastC c = q at *
  simp only [ccells] at HP G0 ⊢
  go_enter Tryz.func55, Tryz.ntmps55
  go_wp2_with fail
  refine (HP.out _).mono ?_
  rintro e w1 ⟨rfl, h1⟩
  have B1 := Lib.hid (bel_to G0.out h1 G0.out.size)
  clear h1 G0 HP
  go_wp2_with fail
  go_ret
  exact ⟨rfl, B1.out⟩

theorem en_Least {B : Nat} {P : EP} {s : ES} (w : World) (h : EngAt w B P s) :
    Calls Tryz.prog 15 #[.pointer (some ⟨P.b, 0, none⟩)] w fun e w' => e = .returned (.int .u64 (s.trip : Int)) ∧ Below w.heap.size w w' := by
  obtain ⟨g, _, hf⟩ := h.f
  have HB := Lib.hid (fl_Best P.a P.r g s.f w hf)
  clear hf
  have c10 := (h).e.cell (i := 10) (v := .pointer (some ⟨P.a, 0, none⟩)) rfl
  unfold ES.trip
  unfold bestV at HB
  clear h
  generalize s.f.best = x at *
  generalize s.f.some = o at *
  cases o with
  | true =>
    go_enter Tryz.func15, Tryz.ntmps15
    go_wp2_with fail
    refine (HB.out).mono ?_
    rintro e w1 ⟨rfl, h1⟩
    go_wp2_with fail
    go_ret
    exact ⟨rfl, h1⟩
  | false =>
    go_enter Tryz.func15, Tryz.ntmps15
    go_wp2_with fail
    refine (HB.out).mono ?_
    rintro e w1 ⟨rfl, h1⟩
    go_wp2_with fail
    go_ret
    exact ⟨rfl, h1⟩

set_option maxHeartbeats 400000 in
theorem en_Best {B k : Nat} {P : EP} {s : ES} (w : World) (h : EngAt w B P s) (ho : s.ok k) :
    Calls Tryz.prog 14 #[.pointer (some ⟨P.b, 0, none⟩)] w fun e w' => e = .returned (.int .u64 (s.rate : Int)) ∧ Below w.heap.size w w' := by
  have HY := Lib.hid (cy_Best P.y s.y w h.y)
  have HL := Lib.hid (fun w h => en_Least (B := B) (P := P) (s := s) w h)
  have HF := Lib.hid (fun w => conf_First s.c w ho.c)
  have HS := Lib.hid (fun w => share_b (firstC s.c) 1000000 s.trip w (firstC_le _) (by omega) (ES.trip_le ho))
  have E0 := Lib.hid h
  have c11 := (h).e.cell (i := 11) (v := .pointer (some ⟨P.y, 0, none⟩)) rfl
  unfold ES.rate
  clear h ho
  simp only [ccells] at HF
  generalize Pl.shareS (firstC s.c) 1000000 s.trip = q at *
  generalize firstC s.c = f at *
  generalize s.trip = tr at *
  by_cases hy : s.y.best = 0
  · rw [if_pos hy]
    rw [hy] at HY
    clear hy
    go_enter Tryz.func14, Tryz.ntmps14
    go_wp2_with fail
    refine (HY.out).mono ?_
    rintro e w1 ⟨rfl, h1⟩
    have E1 := Lib.hid (E0.out.keep h1)
    have B1 := Lib.hid h1
    clear h1 HY E0 c11
    have q := ei_c0 (Lib.hid (EngI.start E1.out))
    go_split_ands
    go_wp2_with fail
    refine (HF.out _).mono ?_
    rintro e w2 ⟨rfl, h1⟩
    have E2 := Lib.hid (E1.out.keep h1)
    have B2 := Lib.hid (bel_to B1.out h1 B1.out.size)
    clear h1 HF B1
    go_wp2_with fail
    refine (HL.out _ E2.out).mono ?_
    rintro e w3 ⟨rfl, h1⟩
    have B3 := Lib.hid (bel_to B2.out h1 B2.out.size)
    clear h1 HL B2 E2 E1
    go_wp2_with fail
    refine (HS.out _).mono ?_
    rintro e w4 ⟨rfl, h1⟩
    have B4 := Lib.hid (bel_to B3.out h1 B3.out.size)
    clear h1 HS B3
    go_wp2_with fail
    go_ret
    exact ⟨rfl, B4.out⟩
  · rw [if_neg hy]
    have d0 : ((s.y.best : Int) == 0) = false := beq_eq_false_iff_ne.2 (by omega)
    generalize s.y.best = x at *
    clear hy
    go_enter Tryz.func14, Tryz.ntmps14
    go_wp2_with fail
    refine (HY.out).mono ?_
    rintro e w1 ⟨rfl, h1⟩
    have B1 := Lib.hid h1
    clear h1
    go_wp2_with fail
    go_ret
    exact ⟨rfl, B1.out⟩

theorem en_holds {B k : Nat} {P : EP} {s : ES} (w : World) (h : EngAt w B P s) (ho : s.ok k) :
    Calls Tryz.prog 77 #[.pointer (some ⟨P.b, 0, none⟩)] w fun e w' => e = .returned (.int .u64 (s.holds : Int)) ∧ Below w.heap.size w w' := by
  have HB := Lib.hid (fun w h => en_Best (B := B) (P := P) (s := s) w h ho)
  have HL := Lib.hid (fun w h => en_Least (B := B) (P := P) (s := s) w h)
  have HF := Lib.hid (fun w => conf_Flight s.rate s.trip w (ES.rate_le ho) (ES.trip_le ho))
  have I0 := Lib.hid (EngI.start h)
  unfold ES.holds
  clear h ho
  generalize Pl.overS s.rate s.trip 1000000 = q at *
  generalize s.rate = ra at *
  generalize s.trip = tr at *
  go_enter Tryz.func77, Tryz.ntmps77
  go_wp2_with fail
  refine (HB.out _ I0.out.at_).mono ?_
  rintro e w1 ⟨rfl, h1⟩
  have I1 := Lib.hid (I0.out.to h1)
  clear h1 I0 HB
  go_wp2_with fail
  refine (HL.out _ I1.out.at_).mono ?_
  rintro e w2 ⟨rfl, h1⟩
  have I2 := Lib.hid (I1.out.to h1)
  clear h1 I1 HL
  go_wp2_with fail
  refine (HF.out _).mono ?_
  rintro e w3 ⟨rfl, h1⟩
  have I3 := Lib.hid (I2.out.to h1)
  clear h1 I2 HF
  go_wp2_with fail
  go_ret
  exact ⟨rfl, I3.out.bel⟩

set_option maxHeartbeats 1000000 in
theorem en_uses {B k : Nat} {P : EP} {s : ES} (W : World) (h : EngAt W B P s) (ho : s.ok k) :
    Calls Tryz.prog 90 #[.pointer (some ⟨P.b, 0, none⟩)] W fun e w' => e = .returned (.int .u64 (s.uses : Int)) ∧ Below W.heap.size W w' := by
  have HB := Lib.hid (fun w h => en_Best (B := B) (P := P) (s := s) w h ho)
  have HL := Lib.hid (fun w h => en_Least (B := B) (P := P) (s := s) w h)
  have HI := Lib.hid (fun w => bd_Limit s.bs s.rate w)
  have HF := Lib.hid (fun w => conf_Flight (s.bs.limit s.rate) s.trip w (ES.limit_le ho) (ES.trip_le ho))
  have I0 := Lib.hid (EngI.start h).drew
  unfold ES.uses
  clear h ho
  generalize Pl.overS (s.bs.limit s.rate) s.trip 1000000 = q at *
  generalize s.bs.limit s.rate = li at *
  generalize s.rate = ra at *
  generalize s.trip = tr at *
  simp only [BS.cells] at HI
  go_enter Tryz.func90, Tryz.ntmps90
  go_wp2_with fail
  go_region_held3 (fun w' => w'.cell? ⟨P.b, 7, none⟩ = some (.int .u64 (s.bs.hi : Int)) ∧ w'.cell? ⟨P.b, 8, none⟩ = some (.int .u64 (s.bs.lo : Int)) ∧ w'.cell? ⟨P.b, 9, none⟩ = some (.int .u64 (s.bs.bw : Int)) ∧ Hid (EngI W B P s w'))
    (first | exact ei_bs0 I0 | exact ei_bs (by assumption) hb)
    (first
      | (go_at_call 14; go_split_ands; (with_reducible refine (HB.out _ (Hid.out (by assumption) : EngI W B P s _).at_).mono ?_); rintro e w' ⟨rfl, hb⟩)
      | (go_at_call 15; go_split_ands; (with_reducible refine (HL.out _ (Hid.out (by assumption) : EngI W B P s _).at_).mono ?_); rintro e w' ⟨rfl, hb⟩)
      | (go_at_call 54; go_split_ands; (with_reducible refine (HI.out _).mono ?_); rintro e w' ⟨rfl, hb⟩)
      | (go_at_call 124; go_split_ands; (with_reducible refine (HF.out _).mono ?_); rintro e w' ⟨rfl, hb⟩))
  go_split_ands
  have hq := (Hid.out ‹Hid (EngI W B P s w')›).bel
  go_wp2
  go_ret
  exact ⟨rfl, hq⟩

set_option maxHeartbeats 1000000 in
theorem en_Pace {B k : Nat} {P : EP} {s : ES} (W : World) (h : EngAt W B P s) (ho : s.ok k) :
    Calls Tryz.prog 16 #[.pointer (some ⟨P.b, 0, none⟩)] W fun e w' => e = .returned (.int .u64 (s.pace : Int)) ∧ Below W.heap.size W w' := by
  have HB := Lib.hid (fun w h => en_Best (B := B) (P := P) (s := s) w h ho)
  have HI := Lib.hid (fun w => bd_Limit s.bs s.rate w)
  have HG := Lib.hid (fun w h => ga_Pace s.st (s.bs.limit s.rate) (ES.limit_le ho) w h)
  have HL := Lib.hid (fun w => conf_Least s.c w ho.c)
  have I0 := Lib.hid (EngI.start h).drew
  have HM : Hid (min (max (paceG (stG s.st) (s.bs.limit s.rate) : Int) (leastC s.c : Int)) 1099511627776 = (s.pace : Int)) := Lib.hid (by unfold ES.pace; omega)
  clear h ho
  generalize paceG (stG s.st) (s.bs.limit s.rate) = pa at *
  generalize s.bs.limit s.rate = li at *
  generalize s.rate = ra at *
  generalize leastC s.c = le at *
  generalize s.pace = q at *
  simp only [BS.cells] at HI
  simp only [ccells] at HL
  go_enter Tryz.func16, Tryz.ntmps16
  go_wp2_with fail
  go_region_held3 (fun w' => w'.cell? ⟨P.b, 13, none⟩ = some (.int .i64 s.st) ∧ w'.cell? ⟨P.b, 7, none⟩ = some (.int .u64 (s.bs.hi : Int)) ∧ w'.cell? ⟨P.b, 8, none⟩ = some (.int .u64 (s.bs.lo : Int)) ∧ w'.cell? ⟨P.b, 9, none⟩ = some (.int .u64 (s.bs.bw : Int)) ∧ Hid (EngI W B P s w'))
    (first | exact ei_sb0 I0 | exact ei_sb (by assumption) hb)
    (first
      | (go_at_call 14; go_split_ands; (with_reducible refine (HB.out _ (Hid.out (by assumption) : EngI W B P s _).at_).mono ?_); rintro e w' ⟨rfl, hb⟩)
      | (go_at_call 54; go_split_ands; (with_reducible refine (HI.out _).mono ?_); rintro e w' ⟨rfl, hb⟩)
      | (go_at_call 53; go_split_ands; (with_reducible refine (HG.out _ (Hid.out (by assumption) : EngI W B P s _).at_.gl).mono ?_); rintro e w' ⟨rfl, hb⟩))
  go_split_ands
  have I1 := Lib.hid (Hid.out ‹Hid (EngI W B P s w')›)
  have q := ei_c0 I1
  go_split_ands
  go_wp2_with fail
  refine (HL.out _).mono ?_
  rintro e w2 ⟨rfl, h1⟩
  have I2 := Lib.hid (I1.out.to h1)
  clear h1
  go_wp2_with fail
  all_goals
    go_ret
    refine ⟨ret_u64 ?_, I2.out.bel⟩
    first | exact HM.out | (rw [← HM.out]; omega)

set_option maxHeartbeats 1000000 in
theorem en_Quantum {B k : Nat} {P : EP} {s : ES} (W : World) (h : EngAt W B P s) (ho : s.ok k) :
    Calls Tryz.prog 17 #[.pointer (some ⟨P.b, 0, none⟩)] W fun e w' => e = .returned (.int .u64 (s.quant : Int)) ∧ Below W.heap.size W w' := by
  have HB := Lib.hid (fun w h => en_Pace (B := B) (P := P) (s := s) w h ho)
  have HQ := Lib.hid (fun w => conf_Quantum s.c s.pace w (ho.c 0) (Nat.le_trans (ES.pace_le s) (by omega)))
  have I0 := Lib.hid (EngI.start h).drew
  unfold ES.quant
  clear h ho
  generalize quantumC (s.c 0) s.pace = q at *
  generalize s.pace = pa at *
  simp only [ccells] at HQ
  go_enter Tryz.func17, Tryz.ntmps17
  go_wp2_with fail
  go_region_held3 (fun w' => w'.cell? ⟨P.b, 0, none⟩ = some (.int .u64 (s.c 0 : Int)) ∧ w'.cell? ⟨P.b, 1, none⟩ = some (.int .u64 (s.c 1 : Int)) ∧ w'.cell? ⟨P.b, 2, none⟩ = some (.int .u64 (s.c 2 : Int)) ∧ w'.cell? ⟨P.b, 3, none⟩ = some (.int .u64 (s.c 3 : Int)) ∧ w'.cell? ⟨P.b, 4, none⟩ = some (.int .u64 (s.c 4 : Int)) ∧ w'.cell? ⟨P.b, 5, none⟩ = some (.int .u64 (s.c 5 : Int)) ∧ Hid (EngI W B P s w'))
    (first | exact ei_c0 I0 | exact ei_c (by assumption) hb)
    (first
      | (go_at_call 16; go_split_ands; (with_reducible refine (HB.out _ (Hid.out (by assumption) : EngI W B P s _).at_).mono ?_); rintro e w' ⟨rfl, hb⟩)
      | (go_at_call 56; go_split_ands; (with_reducible refine (HQ.out _).mono ?_); rintro e w' ⟨rfl, hb⟩))
  go_split_ands
  have hq := (Hid.out ‹Hid (EngI W B P s w')›).bel
  go_wp2
  go_ret
  exact ⟨rfl, hq⟩

theorem en_State {B : Nat} {P : EP} {s : ES} (w : World) (h : EngAt w B P s) :
    Calls Tryz.prog 12 #[.pointer (some ⟨P.b, 0, none⟩)] w fun e w' => e = .returned (.int .i64 s.st) ∧ Below w.heap.size w w' := by
  have c13 := (h).e.cell (i := 13) (v := .int .i64 s.st) rfl
  go_enter Tryz.func12, Tryz.ntmps12
  go_wp2
  go_ret
  exact ⟨rfl, Below.refl _ _⟩
theorem en_Cwnd {B : Nat} {P : EP} {s : ES} (w : World) (h : EngAt w B P s) :
    Calls Tryz.prog 13 #[.pointer (some ⟨P.b, 0, none⟩)] w fun e w' => e = .returned (.int .u64 (s.cwnd : Int)) ∧ Below w.heap.size w w' := by
  have c18 := (h).e.cell (i := 18) (v := .int .u64 (s.cwnd : Int)) rfl
  go_enter Tryz.func13, Tryz.ntmps13
  go_wp2
  go_ret
  exact ⟨rfl, Below.refl _ _⟩

end Go.Proofs.YtpkbjfhicocogaaGreatDoor

/- Small facts: numbers at hand for fix.Sub and fix.Add, wherever they lie; an event in memory. -/
set_option linter.unusedVariables false
namespace Go.Proofs.YtpkbjfhicocogaaGreatDoor
open Go.RowKit Cf

theorem cell_dr {w : World} {p : Addr} {v : Value} (h : w.cell? p = some v) : w.drew.cell? p = some v := h
theorem al_dr (w : World) (o : Obj) : Below w.heap.size w (w.alloc o).drew := ((Below.refl _ _).alloc (Nat.le_refl _) o).trans ((Drawn.drew _).below _)
theorem bel_cell {V w : World} {p : Addr} {v : Value} (hb : Below V.heap.size V w) (h : V.cell? p = some v) : w.cell? p = some v := (hb.cell (World.block_lt_of_cell? V p h)).trans h
theorem nc1 (W : World) (x : Nat) (T : TypeId) : (W.alloc (.cells #[.int .u64 (x : Int)] T)).drew.cell? ⟨W.heap.size, 0, none⟩ = some (.int .u64 (x : Int)) := cell_dr (new_cell rfl rfl)
theorem nc1' (W : World) (x : Nat) (T : TypeId) : (W.alloc (.cells #[.int .u64 (x : Int)] T)).cell? ⟨W.heap.size, 0, none⟩ = some (.int .u64 (x : Int)) := new_cell rfl rfl
theorem al_be (w : World) (o : Obj) : Below w.heap.size w (w.alloc o) := (Below.refl _ _).alloc (Nat.le_refl _) o
theorem row1 {W : World} {b x : Nat} (h : W.cell? ⟨b, 0, none⟩ = some (.int .u64 (x : Int))) : Row W b 0 [x] := by
  intro i hi
  match i, hi with
  | 0, _ => exact h
/-- fix.Sub of one number, wherever it lies. -/
theorem sub_any (a x b : Nat) (ha : a ≤ 18446744073709551615) (hx : x ≤ 18446744073709551615) (W : World) (h : W.cell? ⟨b, 0, none⟩ = some (.int .u64 (x : Int))) :
    Calls Tryz.prog 72 #[.int .u64 (a : Int), .slice (some ⟨b, 0, none⟩) 1 1] W fun e w' => e = .returned (.int .u64 ((Pl.subS a x : Nat) : Int)) ∧ W = w' := by
  have := fix_Sub (a : Int) b 0 1 [x] W (by omega) (by omega) (by simp) (by simp; exact hx) (row1 h)
  simpa [Pl.lessS, Pl.subS] using this

theorem row2 {W : World} {b x y : Nat} (h0 : W.cell? ⟨b, 0, none⟩ = some (.int .u64 (x : Int))) (h1 : W.cell? ⟨b, 1, none⟩ = some (.int .u64 (y : Int))) : Row W b 0 [x, y] := by
  intro i hi
  match i, hi with
  | 0, _ => exact h0
  | 1, _ => exact h1
/-- fix.Add of two numbers, wherever they lie. -/
theorem add_any (x y : Nat) (hx : x ≤ 18446744073709551615) (hy : y ≤ 18446744073709551615) (b : Nat) (W : World) (h0 : W.cell? ⟨b, 0, none⟩ = some (.int .u64 (x : Int))) (h1 : W.cell? ⟨b, 1, none⟩ = some (.int .u64 (y : Int))) :
    Calls Tryz.prog 67 #[.slice (some ⟨b, 0, none⟩) 2 2] W fun e w' => e = .returned (.int .u64 ((Pl.addS x y : Nat) : Int)) ∧ Below W.heap.size W w' := by
  have := fix_Add b 0 2 [x, y] W (by simp) (by simp; omega) (row2 h0 h1)
  have e : Pl.sumS [x, y] = Pl.addS x y := by simp [Pl.sumS, Pl.addS]
  rw [e] at this
  exact this.mono fun e w' q => ⟨q.1, q.2 ▸ Below.refl _ _⟩
theorem nc2 (W : World) (x y : Nat) (T : TypeId) : (W.alloc (.cells #[.int .u64 (x : Int), .int .u64 (y : Int)] T)).cell? ⟨W.heap.size, 0, none⟩ = some (.int .u64 (x : Int)) ∧ (W.alloc (.cells #[.int .u64 (x : Int), .int .u64 (y : Int)] T)).cell? ⟨W.heap.size, 1, none⟩ = some (.int .u64 (y : Int)) := ⟨new_cell rfl rfl, new_cell rfl rfl⟩

def EvS.cells (x : EvS) : Array Value := #[.int .u64 (x.now : Int), .int .u64 (x.sd : Int), .int .u64 (x.si : Int), .int .u64 (x.sr : Int), .int .u64 (x.rt : Int), .bool x.sl, .bool x.sm, .int .u64 (x.dl : Int), .int .u64 (x.ac : Int), .int .u64 (x.lo : Int), .int .u64 (x.fl : Int)]
def EvS.val (x : EvS) : Value := .agg x.cells
end Go.Proofs.YtpkbjfhicocogaaGreatDoor

/- Contracts of package bbr over this translation: what changes an engine. -/
set_option linter.unusedVariables false
namespace Go.Proofs.YtpkbjfhicocogaaGreatDoor
open Go.RowKit Cf

theorem EngAt.set {w : World} {B : Nat} {P : EP} {s s' : ES} (h : EngAt w B P s) (i : Nat) (u : Value) (he : (ecells P s).setIfInBounds i u = ecells P s') (hp : s'.p = s.p) (hf : s'.f = s.f) (hy : s'.y = s.y) (hn : s'.n = s.n) :
    EngAt (w.setCell ⟨P.b, i, none⟩ u) B P s' :=
  ⟨he ▸ h.e.set i u, hp ▸ h.p.set_other i u (h.p.ty h.e (by decide)), by
    obtain ⟨g, hg, k⟩ := h.f
    obtain ⟨c1, k1⟩ := k.row.head
    obtain ⟨c2, k2⟩ := k.row.body
    exact ⟨g, hg, hf ▸ ⟨k.head.set_other i u (k.head.ty h.e (by decide)), k.row.set_other (k1.ty h.e (by decide)) (k2.ty h.e (by decide))⟩⟩,
   hy ▸ Blk.set_other h.y i u (Blk.ty h.y h.e (by decide)), hn ▸ h.n.set_other i u (h.n.ty h.e (by decide)),
   h.gl.below (B := B) ((Below.refl _ _).setCell (p := ⟨P.b, i, none⟩) h.own.1 u) h.lo, h.lo, h.own⟩

/-- What a call leaves that changes an engine. -/
structure EPost (B : Nat) (P : EP) (v : Ending) (s' : ES) (W : World) (e : Ending) (w : World) : Prop where
  e : e = v
  at_ : EngAt w B P s'
  bel : Below B W w
  kt : KT W w

/-- What holds while an engine is changed by an event. -/
structure MutI (W : World) (B : Nat) (P : EP) (s : ES) (x : EvS) (w : World) : Prop where
  at_ : EngAt w B P s
  bel : Below B W w
  kt : KT W w
  ev : Blk w W.heap.size 39 x.cells
theorem MutI.to {W w w' : World} {B : Nat} {P : EP} {s : ES} {x : EvS} (h : MutI W B P s x w) (k : Below w.heap.size w w') : MutI W B P s x w' :=
  ⟨h.at_.keep k, bel_to h.bel k h.at_.size, h.kt.trans (KT.below k), h.ev.keep k⟩
theorem MutI.drew {W w : World} {B : Nat} {P : EP} {s : ES} {x : EvS} (h : MutI W B P s x w) : MutI W B P s x w.drew := h.to ((Drawn.drew w).below _)
theorem MutI.start {W : World} {B : Nat} {P : EP} {s : ES} (h : EngAt W B P s) (x : EvS) : MutI W B P s x (W.alloc (.cells x.cells 39)) :=
  ⟨h.keep ((Below.refl _ _).alloc (Nat.le_refl _) _), (Below.refl _ _).alloc h.size _, KT.below ((Below.refl _ _).alloc (Nat.le_refl _) _), Blk.new W _ _⟩
theorem MutI.set {W w : World} {B : Nat} {P : EP} {s s' : ES} {x : EvS} (h : MutI W B P s x w) (i : Nat) (u : Value) (he : (ecells P s).setIfInBounds i u = ecells P s') (hp : s'.p = s.p) (hf : s'.f = s.f) (hy : s'.y = s.y) (hn : s'.n = s.n) :
    MutI W B P s' x (w.setCell ⟨P.b, i, none⟩ u) :=
  ⟨h.at_.set i u he hp hf hy hn, h.bel.setCell (p := ⟨P.b, i, none⟩) h.at_.own.1 u, h.kt.set h.at_.e (by decide) i u, h.ev.set_other i u (h.ev.ty h.at_.e (by decide))⟩
theorem MutI.step {W w w' : World} {B : Nat} {P : EP} {s s' : ES} {x : EvS} {v e : Ending} (h : MutI W B P s x w) (k : EPost B P v s' w e w') : MutI W B P s' x w' :=
  ⟨k.at_, h.bel.trans k.bel, h.kt.trans k.kt, k.kt _ (by decide) _ _ h.ev⟩
theorem MutI.post {W w : World} {B : Nat} {P : EP} {s : ES} {x : EvS} {v : Ending} (h : MutI W B P s x w) : EPost B P v s W v w := ⟨rfl, h.at_, h.bel, h.kt⟩


theorem MutI.al {W w w' : World} {B : Nat} {P : EP} {s : ES} {x : EvS} {q : Obj} (h : MutI W B P s x w) (k : Below (w.alloc q).heap.size (w.alloc q) w') : MutI W B P s x w' := (h.to (al_be _ _)).to k
theorem MutI.ald {W w w' : World} {B : Nat} {P : EP} {s : ES} {x : EvS} {q : Obj} (h : MutI W B P s x w) (k : Below (w.alloc q).drew.heap.size (w.alloc q).drew w') : MutI W B P s x w' := (h.to (al_dr _ _)).to k

set_option maxHeartbeats 1000000 in
theorem en_count {B k : Nat} {P : EP} {s : ES} (x : EvS) (hx : x.ok) (W : World) (h : EngAt W B P s) (ho : s.ok k) :
    Calls Tryz.prog 33 #[.pointer (some ⟨P.b, 0, none⟩), x.val] W (EPost B P (.returned (.tuple #[])) (s.count x) W) := by
  have HA := Lib.hid (add_any s.acked x.ac ho.acked hx.ac)
  have HL := Lib.hid (add_any s.lost x.lo ho.lost hx.lo)
  have M0 := Lib.hid (MutI.start h x)
  unfold EvS.val
  clear h ho hx
  have HE : Hid (x.cells = #[.int .u64 (x.now : Int), .int .u64 (x.sd : Int), .int .u64 (x.si : Int), .int .u64 (x.sr : Int), .int .u64 (x.rt : Int), .bool x.sl, .bool x.sm, .int .u64 (x.dl : Int), .int .u64 (x.ac : Int), .int .u64 (x.lo : Int), .int .u64 (x.fl : Int)]) := Lib.hid rfl
  rw [HE.out] at M0 ⊢
  go_enter Tryz.func33, Tryz.ntmps33
  go_wp2_with fail
  generalize W.alloc (.cells #[.int .u64 (x.now : Int), .int .u64 (x.sd : Int), .int .u64 (x.si : Int), .int .u64 (x.sr : Int), .int .u64 (x.rt : Int), .bool x.sl, .bool x.sm, .int .u64 (x.dl : Int), .int .u64 (x.ac : Int), .int .u64 (x.lo : Int), .int .u64 (x.fl : Int)] 39) = w0 at *
  have M1 := Lib.hid M0.out.drew
  have e8 := M1.out.ev.cell (i := 8) (v := .int .u64 (x.ac : Int)) rfl
  have c16 := (M1.out.at_).e.cell (i := 16) (v := .int .u64 (s.acked : Int)) rfl
  go_region_with (first
    | (go_at_call 67; (refine (HA.out _ _ (by first | exact (nc2 _ _ _ _).1 | exact cell_dr (nc2 _ _ _ _).1) (by first | exact (nc2 _ _ _ _).2 | exact cell_dr (nc2 _ _ _ _).2)).mono ?_); rintro e w2 ⟨rfl, hb⟩; have M2 : Hid (MutI W B P _ x w2) := (by first | exact Lib.hid (M1.out.al hb) | exact Lib.hid (M1.out.ald hb)); have d16 := M2.out.at_.e.cell (i := 16) (v := .int .u64 (s.acked : Int)) rfl; have y16 := M2.out.at_.e.free 16))
  all_goals
    have M3 := Lib.hid (M2.out.set (s' := { s with acked := Pl.addS s.acked x.ac }) 16 (.int .u64 ((Pl.addS s.acked x.ac : Nat) : Int)) rfl rfl rfl rfl rfl)
    clear M0 M1 M2 e8 c16 d16 y16 hb
    generalize w2.setCell ⟨P.b, 16, none⟩ (.int .u64 ((Pl.addS s.acked x.ac : Nat) : Int)) = w3 at *
    go_wp2_with fail
    have M4 := Lib.hid M3.out.drew
    have e9 := M4.out.ev.cell (i := 9) (v := .int .u64 (x.lo : Int)) rfl
    have c17 := M4.out.at_.e.cell (i := 17) (v := .int .u64 (s.lost : Int)) rfl
    go_region_with (first
      | (go_at_call 67; (refine (HL.out _ _ (by first | exact (nc2 _ _ _ _).1 | exact cell_dr (nc2 _ _ _ _).1) (by first | exact (nc2 _ _ _ _).2 | exact cell_dr (nc2 _ _ _ _).2)).mono ?_); rintro e w2 ⟨rfl, hb⟩; have M5 : Hid (MutI W B P _ x w2) := (by first | exact Lib.hid (M4.out.al hb) | exact Lib.hid (M4.out.ald hb)); have d17 := M5.out.at_.e.cell (i := 17) (v := .int .u64 (s.lost : Int)) rfl; have y17 := M5.out.at_.e.free 17))
    all_goals
      have M6 := Lib.hid (M5.out.set (s' := s.count x) 17 (.int .u64 ((Pl.addS s.lost x.lo : Nat) : Int)) rfl rfl rfl rfl rfl)
      go_wp2_with fail
      go_end0
      exact M6.out.post

end Go.Proofs.YtpkbjfhicocogaaGreatDoor

/- Contracts of package bbr over this translation: what changes an engine: settle, yield, turn. -/
set_option linter.unusedVariables false
namespace Go.Proofs.YtpkbjfhicocogaaGreatDoor
open Go.RowKit Cf

/-- What holds while an engine is changed. -/
structure MutN (W : World) (B : Nat) (P : EP) (s : ES) (w : World) : Prop where
  at_ : EngAt w B P s
  bel : Below B W w
  kt : KT W w
theorem MutN.to {W w w' : World} {B : Nat} {P : EP} {s : ES} (h : MutN W B P s w) (k : Below w.heap.size w w') : MutN W B P s w' :=
  ⟨h.at_.keep k, bel_to h.bel k h.at_.size, h.kt.trans (KT.below k)⟩
theorem MutN.drew {W w : World} {B : Nat} {P : EP} {s : ES} (h : MutN W B P s w) : MutN W B P s w.drew := h.to ((Drawn.drew w).below _)
theorem MutN.start {W : World} {B : Nat} {P : EP} {s : ES} (h : EngAt W B P s) : MutN W B P s W := ⟨h, Below.refl _ _, KT.refl _⟩
theorem MutN.set {W w : World} {B : Nat} {P : EP} {s s' : ES} (h : MutN W B P s w) (i : Nat) (u : Value) (he : (ecells P s).setIfInBounds i u = ecells P s') (hp : s'.p = s.p) (hf : s'.f = s.f) (hy : s'.y = s.y) (hn : s'.n = s.n) :
    MutN W B P s' (w.setCell ⟨P.b, i, none⟩ u) :=
  ⟨h.at_.set i u he hp hf hy hn, h.bel.setCell (p := ⟨P.b, i, none⟩) h.at_.own.1 u, h.kt.set h.at_.e (by decide) i u⟩
theorem MutN.post {W w : World} {B : Nat} {P : EP} {s : ES} {v : Ending} (h : MutN W B P s w) : EPost B P v s W v w := ⟨rfl, h.at_, h.bel, h.kt⟩
theorem MutN.al {W w w' : World} {B : Nat} {P : EP} {s : ES} {q : Obj} (h : MutN W B P s w) (k : Below (w.alloc q).heap.size (w.alloc q) w') : MutN W B P s w' := (h.to (al_be _ _)).to k
theorem MutN.ald {W w w' : World} {B : Nat} {P : EP} {s : ES} {q : Obj} (h : MutN W B P s w) (k : Below (w.alloc q).drew.heap.size (w.alloc q).drew w') : MutN W B P s w' := (h.to (al_dr _ _)).to k
theorem nc2e (W : World) (b x : Nat) (y : Int) (T : TypeId) (hb : b = W.heap.size) : (W.alloc (.cells #[.int .u64 (x : Int), .int .u64 y] T)).cell? ⟨b, 0, none⟩ = some (.int .u64 (x : Int)) ∧ (W.alloc (.cells #[.int .u64 (x : Int), .int .u64 y] T)).cell? ⟨b, 1, none⟩ = some (.int .u64 y) := by subst hb; exact ⟨new_cell rfl rfl, new_cell rfl rfl⟩
theorem MutN.mi {W w w' : World} {B : Nat} {P : EP} {s s' : ES} {x : EvS} (h : MutI W B P s x w) (k : MutN w B P s' w') : MutI W B P s' x w' :=
  ⟨k.at_, h.bel.trans k.bel, h.kt.trans k.kt, k.kt _ (by decide) _ _ h.ev⟩
theorem MutN.cat {W w w' : World} {B : Nat} {P : EP} {s s' : ES} (h : MutN W B P s w) (k : MutN w B P s' w') : MutN W B P s' w' := ⟨k.at_, h.bel.trans k.bel, h.kt.trans k.kt⟩
theorem Fr.of_gr {w w' : World} {c : Nat} (g : w.grownBy w' (some c)) : Fr w w' [c] := ⟨g.os, g.tape, g.output, g.size, fun k hk hl => g.block k hk (by simpa using hl)⟩
theorem MutN.cy {w w' : World} {B : Nat} {P : EP} {s : ES} {y' : CY} (h : EngAt w B P s) (hy : CyAt w' P.y y') (g : w.grownBy w' (some P.y)) : MutN w B P { s with y := y' } w' := by
  have k := Fr.of_gr g
  have hb : Below B w w' := bel_gr (Below.refl _ _) g h.size h.own.2.2.2.2.1
  refine ⟨⟨h.e.fr k (by simpa using h.e.ty h.y (by decide)), h.p.fr k (by simpa using h.p.ty h.y (by decide)), ?_, hy, h.n.fr k (by simpa using h.n.ty h.y (by decide)), h.gl.below hb h.lo, h.lo, h.own⟩, hb, KT.gr g h.y (by decide)⟩
  obtain ⟨g', hg, q⟩ := h.f
  obtain ⟨c1, k1⟩ := q.row.head
  obtain ⟨c2, k2⟩ := q.row.body
  exact ⟨g', hg, q.fr k (by simpa using q.head.ty h.y (by decide)) (by simpa using k1.ty h.y (by decide)) (by simpa using k2.ty h.y (by decide))⟩
theorem MutN.ct {w w' : World} {B : Nat} {P : EP} {s : ES} {n' : Ct} (h : EngAt w B P s) (hy : Blk w' P.n 115 n'.cells) (g : w.grownBy w' (some P.n)) : MutN w B P { s with n := n' } w' := by
  have k := Fr.of_gr g
  have hb : Below B w w' := bel_gr (Below.refl _ _) g h.size h.own.2.2.2.2.2
  refine ⟨⟨h.e.fr k (by simpa using h.e.ty h.n (by decide)), h.p.fr k (by simpa using h.p.ty h.n (by decide)), ?_, Blk.fr h.y k (by simpa using Blk.ty h.y h.n (by decide)), hy, h.gl.below hb h.lo, h.lo, h.own⟩, hb, KT.gr g h.n (by decide)⟩
  obtain ⟨g', hg, q⟩ := h.f
  obtain ⟨c1, k1⟩ := q.row.head
  obtain ⟨c2, k2⟩ := q.row.body
  exact ⟨g', hg, q.fr k (by simpa using q.head.ty h.n (by decide)) (by simpa using k1.ty h.n (by decide)) (by simpa using k2.ty h.n (by decide))⟩
theorem MutN.pi {w w' : World} {B : Nat} {P : EP} {s : ES} {p' : Pi} (h : EngAt w B P s) (hy : Blk w' P.p 104 p'.cells) (g : w.grownBy w' (some P.p)) : MutN w B P { s with p := p' } w' := by
  have k := Fr.of_gr g
  have hb : Below B w w' := bel_gr (Below.refl _ _) g h.size h.own.2.1
  refine ⟨⟨h.e.fr k (by simpa using h.e.ty h.p (by decide)), hy, ?_, Blk.fr h.y k (by simpa using Blk.ty h.y h.p (by decide)), h.n.fr k (by simpa using h.n.ty h.p (by decide)), h.gl.below hb h.lo, h.lo, h.own⟩, hb, KT.gr g h.p (by decide)⟩
  obtain ⟨g', hg, q⟩ := h.f
  obtain ⟨c1, k1⟩ := q.row.head
  obtain ⟨c2, k2⟩ := q.row.body
  exact ⟨g', hg, q.fr k (by simpa using q.head.ty h.p (by decide)) (by simpa using k1.ty h.p (by decide)) (by simpa using k2.ty h.p (by decide))⟩
theorem MutN.fl {w w' : World} {B g : Nat} {P : EP} {s : ES} {f' : FS} {v e : Ending} (h : EngAt w B P s) (hg : B ≤ g) (hf : FlAt w P.a P.r g s.f) (k : FPost w P.a P.r g v f' e w') : MutN w B P { s with f := f' } w' := by
  obtain ⟨g', hf', hg'⟩ := k.at_
  obtain ⟨c1, k1⟩ := hf.row.head
  obtain ⟨c2, k2⟩ := hf.row.body
  have hB := h.size
  have hb : Below B w w' := bel_fr (Below.refl _ _) k.fr hB (by
    intro x hx
    simp only [List.mem_cons, List.not_mem_nil, or_false] at hx
    rcases hx with rfl | rfl | rfl
    · exact h.own.2.2.1
    · exact h.own.2.2.2.1
    · exact hg)
  refine ⟨⟨h.e.fr k.fr ?_, h.p.fr k.fr ?_, ⟨g', by omega, hf'⟩, Blk.fr h.y k.fr ?_, h.n.fr k.fr ?_, h.gl.below hb h.lo, h.lo, h.own⟩, hb, fun T hT b cs q => q.fr k.fr ?_⟩
  · simpa using ⟨h.e.ty hf.head (by decide), h.e.ty k1 (by decide), h.e.ty k2 (by decide)⟩
  · simpa using ⟨h.p.ty hf.head (by decide), h.p.ty k1 (by decide), h.p.ty k2 (by decide)⟩
  · simpa using ⟨Blk.ty h.y hf.head (by decide), Blk.ty h.y k1 (by decide), Blk.ty h.y k2 (by decide)⟩
  · simpa using ⟨h.n.ty hf.head (by decide), h.n.ty k1 (by decide), h.n.ty k2 (by decide)⟩
  · simpa using ⟨q.ty hf.head (fun e => hT (e ▸ by decide)), q.ty k1 (fun e => hT (e ▸ by decide)), q.ty k2 (fun e => hT (e ▸ by decide))⟩
theorem ret_bool {a b : Bool} (h : a = b) : Ending.returned (.bool a) = .returned (.bool b) := by rw [h]

theorem ms_settle {W w : World} {B : Nat} {P : EP} {s : ES} (h : Hid (MutN W B P s w)) : w.cell? ⟨P.b, 17, none⟩ = some (.int .u64 (s.lost : Int)) ∧ w.cell? ⟨P.b, 5, none⟩ = some (.int .u64 (s.c 5 : Int)) ∧ Hid (MutN W B P s w) :=
  ⟨h.out.at_.e.cell rfl, h.out.at_.e.cell rfl, h⟩
set_option maxHeartbeats 1000000 in
theorem en_settle {B k : Nat} {P : EP} {s : ES} (W : World) (h : EngAt W B P s) (ho : s.ok k) :
    Calls Tryz.prog 35 #[.pointer (some ⟨P.b, 0, none⟩)] W (EPost B P (.returned (.bool s.lossy)) s.settle W) := by
  have HA := Lib.hid (add_any s.acked s.lost ho.acked ho.lost)
  have HR : Hid (∀ (b : Nat) (W : World), W.cell? ⟨b, 0, none⟩ = some (.int .u64 (s.rounds : Int)) → W.cell? ⟨b, 1, none⟩ = some (.int .u64 1) → Calls Tryz.prog 67 #[.slice (some ⟨b, 0, none⟩) 2 2] W fun e w' => e = .returned (.int .u64 ((Pl.addS s.rounds 1 : Nat) : Int)) ∧ Below W.heap.size W w') := Lib.hid (add_any s.rounds 1 ho.rounds (by omega))
  have HM : Hid (∀ w, Calls Tryz.prog 73 #[.int .u64 (s.lost : Int), .int .u64 1000] w fun e w' => e = .returned (.int .u64 ((Pl.mulS s.lost 1000 : Nat) : Int)) ∧ w = w') := Lib.hid (fun w => fix_Mul_n s.lost 1000 w ho.lost (by omega))
  have HN := Lib.hid (fun w => fix_Mul_n (s.c 5) (Pl.addS s.acked s.lost) w (ho.c 5) (Pl.addS_le _ _))
  have hd : decide (Pl.mulS (s.c 5) (Pl.addS s.acked s.lost) < Pl.mulS s.lost 1000) = s.lossy := rfl
  have M0 := Lib.hid (MutN.start h).drew
  clear h ho
  generalize s.lossy = lossy at *
  generalize Pl.mulS (s.c 5) (Pl.addS s.acked s.lost) = m2 at *
  generalize Pl.mulS s.lost 1000 = m1 at *
  go_enter Tryz.func35, Tryz.ntmps35
  go_wp2_with fail
  have c16 := M0.out.at_.e.cell (i := 16) (v := .int .u64 (s.acked : Int)) rfl
  have c17 := M0.out.at_.e.cell (i := 17) (v := .int .u64 (s.lost : Int)) rfl
  go_region_with (first
    | (go_at_call 67; (refine (HA.out _ _ (by first | exact (nc2 _ _ _ _).1 | exact cell_dr (nc2 _ _ _ _).1) (by first | exact (nc2 _ _ _ _).2 | exact cell_dr (nc2 _ _ _ _).2)).mono ?_); rintro e w2 ⟨rfl, hb⟩; have M2 : Hid (MutN W B P _ w2) := (by first | exact Lib.hid (M0.out.al hb) | exact Lib.hid (M0.out.ald hb)); ))
  all_goals
    clear M0 c16 c17 hb HA
    go_wp2_with fail
    have M3 := Lib.hid M2.out.drew
    go_region_held3 (fun w' => w'.cell? ⟨P.b, 17, none⟩ = some (.int .u64 (s.lost : Int)) ∧ w'.cell? ⟨P.b, 5, none⟩ = some (.int .u64 (s.c 5 : Int)) ∧ Hid (MutN W B P s w'))
      (first | exact ms_settle M3)
      (first
        | (go_at_call 73; go_split_ands; (with_reducible refine (HM.out _).mono ?_); rintro e w' ⟨rfl, rfl⟩)
        | (go_at_call 73; go_split_ands; (with_reducible refine (HN.out _).mono ?_); rintro e w' ⟨rfl, rfl⟩))
    go_split_ands
    have M4 : Hid (MutN W B P s w2) := M2
    have y15 := M4.out.at_.e.free 15
    have y16 := M4.out.at_.e.free 16
    have y17 := M4.out.at_.e.free 17
    have d15 := M4.out.at_.e.cell (i := 15) (v := .int .u64 (s.rounds : Int)) rfl
    have d16 := M4.out.at_.e.cell (i := 16) (v := .int .u64 (s.acked : Int)) rfl
    have d17 := M4.out.at_.e.cell (i := 17) (v := .int .u64 (s.lost : Int)) rfl
    have M5 := Lib.hid ((M4.out.set (s' := { s with acked := 0 }) 16 (.int .u64 0) rfl rfl rfl rfl rfl).set (s' := { s with acked := 0, lost := 0 }) 17 (.int .u64 0) rfl rfl rfl rfl rfl)
    go_wp2_with fail
    refine (HR.out _ _ (by exact (nc2e _ _ _ _ _ (by simp)).1) (by exact (nc2e _ _ _ _ _ (by simp)).2)).mono ?_
    rintro e w6 ⟨rfl, hb⟩
    have M6 : Hid (MutN W B P { s with acked := 0, lost := 0 } w6) := (by first | exact Lib.hid (M5.out.al hb) | exact Lib.hid (M5.out.ald hb) | exact Lib.hid (M5.out.drew.al hb) | exact Lib.hid (M5.out.drew.ald hb))
    have z15 := M6.out.at_.e.cell (i := 15) (v := .int .u64 (s.rounds : Int)) rfl
    have q15 := M6.out.at_.e.free 15
    have M7 := Lib.hid (M6.out.set (s' := s.settle) 15 (.int .u64 ((Pl.addS s.rounds 1 : Nat) : Int)) rfl rfl rfl rfl rfl)
    clear M2 M3 M4 M5 M6 hb y15 y16 y17 d15 d16 d17
    go_wp2_with fail
    go_ret
    exact ⟨rfl, M7.out.at_, M7.out.bel, M7.out.kt⟩

end Go.Proofs.YtpkbjfhicocogaaGreatDoor

/- Contracts of package bbr over this translation: turn. -/
set_option linter.unusedVariables false
namespace Go.Proofs.YtpkbjfhicocogaaGreatDoor
open Go.RowKit Cf

theorem en_turn_same {B : Nat} {P : EP} {s : ES} (now : Nat) (t : Int) (W : World) (h : EngAt W B P s) (hn : t = s.st) :
    Calls Tryz.prog 39 #[.pointer (some ⟨P.b, 0, none⟩), .int .u64 (now : Int), .int .i64 t] W (EPost B P (.returned (.tuple #[])) s W) := by
  have z0 : (t == s.st) = true := beq_iff_eq.2 hn
  have M0 := Lib.hid (MutN.start h)
  have g13 := M0.out.at_.e.cell (i := 13) (v := .int .i64 s.st) rfl
  clear h hn
  go_enter Tryz.func39, Tryz.ntmps39
  go_wp2_with fail
  exact bodyPost_ret (v := .tuple #[]) (by simp [results, Tryz.results39, go_sem]) rfl M0.out.post

set_option maxHeartbeats 1000000 in
theorem en_turn_none {B k : Nat} {P : EP} {s : ES} (now : Nat) (t : Int) (W : World) (h : EngAt W B P s) (ho : s.ok k) (hn : t ≠ s.st) (h6 : s.st ≠ 6) (t6 : t ≠ 6) (t4 : t ≠ 4) (h5 : ¬ (s.st = 5 ∧ t = 2)) :
    Calls Tryz.prog 39 #[.pointer (some ⟨P.b, 0, none⟩), .int .u64 (now : Int), .int .i64 t] W (EPost B P (.returned (.tuple #[])) { s with st := t, began := now, rounds := 0 } W) := by
  have z0 : (t == s.st) = false := beq_eq_false_iff_ne.2 (hn)
  have z1 : (s.st == 6) = false := beq_eq_false_iff_ne.2 (h6)
  have z2 : (t == 6) = false := beq_eq_false_iff_ne.2 (t6)
  have z3 : (t == 4) = false := beq_eq_false_iff_ne.2 (t4)
  have zz : (s.st == 5) = false ∨ ((s.st == 5) = true ∧ (t == 2) = false) := by
    by_cases e5 : s.st = 5
    · exact Or.inr ⟨beq_iff_eq.2 e5, beq_eq_false_iff_ne.2 (fun e2 => h5 ⟨e5, e2⟩)⟩
    · exact Or.inl (beq_eq_false_iff_ne.2 e5)
  have M0 := Lib.hid (MutN.start h)
  have g13 := M0.out.at_.e.cell (i := 13) (v := .int .i64 s.st) rfl
  have MF := M0
  have y13 := MF.out.at_.e.free 13
  have y14 := MF.out.at_.e.free 14
  have y15 := MF.out.at_.e.free 15
  have d13 := MF.out.at_.e.cell (i := 13) (v := .int .i64 s.st) rfl
  have d14 := MF.out.at_.e.cell (i := 14) (v := .int .u64 (s.began : Int)) rfl
  have d15 := MF.out.at_.e.cell (i := 15) (v := .int .u64 (s.rounds : Int)) rfl
  have MZ := Lib.hid (((MF.out.set (s' := { s with st := t }) 13 (.int .i64 t) rfl rfl rfl rfl rfl).set (s' := { s with st := t, began := now }) 14 (.int .u64 (now : Int)) rfl rfl rfl rfl rfl).set (s' := { s with st := t, began := now, rounds := 0 }) 15 (.int .u64 0) rfl rfl rfl rfl rfl)
  clear h ho hn h6 t6 t4 h5
  rcases zz with z4 | ⟨z4, z5⟩
  all_goals
    go_enter Tryz.func39, Tryz.ntmps39
    go_wp2_with fail
    go_end0
    exact MZ.out.post

set_option maxHeartbeats 1000000 in
theorem en_turn_kept {B k : Nat} {P : EP} {s : ES} (now : Nat) (t : Int) (W : World) (h : EngAt W B P s) (ho : s.ok k) (hn : t ≠ s.st) (h6 : s.st ≠ 6) (t6 : t = 6) :
    Calls Tryz.prog 39 #[.pointer (some ⟨P.b, 0, none⟩), .int .u64 (now : Int), .int .i64 t] W (EPost B P (.returned (.tuple #[])) { { s with kept := s.cwnd } with st := t, began := now, rounds := 0 } W) := by
  have z0 : (t == s.st) = false := beq_eq_false_iff_ne.2 (hn)
  have z1 : (s.st == 6) = false := beq_eq_false_iff_ne.2 (h6)
  have z2 : (t == 6) = true := beq_iff_eq.2 t6
  have M0 := Lib.hid (MutN.start h)
  have g13 := M0.out.at_.e.cell (i := 13) (v := .int .i64 s.st) rfl
  have g18 := M0.out.at_.e.cell (i := 18) (v := .int .u64 (s.cwnd : Int)) rfl
  have g19 := M0.out.at_.e.cell (i := 19) (v := .int .u64 (s.kept : Int)) rfl
  have y19 := M0.out.at_.e.free 19
  have MF := Lib.hid (M0.out.set (s' := { s with kept := s.cwnd }) 19 (.int .u64 (s.cwnd : Int)) rfl rfl rfl rfl rfl)
  clear h ho hn h6 t6
  go_enter Tryz.func39, Tryz.ntmps39
  have y13 := MF.out.at_.e.free 13
  have y14 := MF.out.at_.e.free 14
  have y15 := MF.out.at_.e.free 15
  have d13 := MF.out.at_.e.cell (i := 13) (v := .int .i64 s.st) rfl
  have d14 := MF.out.at_.e.cell (i := 14) (v := .int .u64 (s.began : Int)) rfl
  have d15 := MF.out.at_.e.cell (i := 15) (v := .int .u64 (s.rounds : Int)) rfl
  have MZ := Lib.hid (((MF.out.set (s' := { { s with kept := s.cwnd } with st := t }) 13 (.int .i64 t) rfl rfl rfl rfl rfl).set (s' := { { s with kept := s.cwnd } with st := t, began := now }) 14 (.int .u64 (now : Int)) rfl rfl rfl rfl rfl).set (s' := { { s with kept := s.cwnd } with st := t, began := now, rounds := 0 }) 15 (.int .u64 0) rfl rfl rfl rfl rfl)
  go_wp2_with fail
  go_end0
  exact MZ.out.post

set_option maxHeartbeats 1000000 in
theorem en_turn_short {B k : Nat} {P : EP} {s : ES} (now : Nat) (t : Int) (W : World) (h : EngAt W B P s) (ho : s.ok k) (hn : t ≠ s.st) (h6 : s.st ≠ 6) (t4 : t = 4) :
    Calls Tryz.prog 39 #[.pointer (some ⟨P.b, 0, none⟩), .int .u64 (now : Int), .int .i64 t] W (EPost B P (.returned (.tuple #[])) { { s with bs := s.bs.short } with st := t, began := now, rounds := 0 } W) := by
  have z0 : (t == s.st) = false := beq_eq_false_iff_ne.2 (hn)
  have z1 : (s.st == 6) = false := beq_eq_false_iff_ne.2 (h6)
  have z2 : (t == 6) = false := beq_eq_false_iff_ne.2 (by omega)
  have z3 : (t == 4) = true := beq_iff_eq.2 t4
  have M0 := Lib.hid (MutN.start h)
  have g13 := M0.out.at_.e.cell (i := 13) (v := .int .i64 s.st) rfl
  have g7 := M0.out.at_.e.cell (i := 7) (v := .int .u64 (s.bs.hi : Int)) rfl
  have g8 := M0.out.at_.e.cell (i := 8) (v := .int .u64 (s.bs.lo : Int)) rfl
  have g9 := M0.out.at_.e.cell (i := 9) (v := .int .u64 (s.bs.bw : Int)) rfl
  have HS := Lib.hid (fun w => bd_Short s.bs w)
  simp only [BS.cells] at HS
  clear h ho hn h6 t4
  go_enter Tryz.func39, Tryz.ntmps39
  go_wp2_with fail
  refine (HS.out _).mono ?_
  rintro e w1 ⟨rfl, hb⟩
  have M1 := Lib.hid (M0.out.to hb)
  have r7 := M1.out.at_.e.cell (i := 7) (v := .int .u64 (s.bs.hi : Int)) rfl
  have r8 := M1.out.at_.e.cell (i := 8) (v := .int .u64 (s.bs.lo : Int)) rfl
  have r9 := M1.out.at_.e.cell (i := 9) (v := .int .u64 (s.bs.bw : Int)) rfl
  have y7 := M1.out.at_.e.free 7
  have y8 := M1.out.at_.e.free 8
  have y9 := M1.out.at_.e.free 9
  have MF := Lib.hid (((M1.out.set (s' := { s with bs := ⟨(s.bs.short).hi, s.bs.lo, s.bs.bw⟩ }) 7 (.int .u64 ((s.bs.short).hi : Int)) rfl rfl rfl rfl rfl).set (s' := { s with bs := ⟨(s.bs.short).hi, (s.bs.short).lo, s.bs.bw⟩ }) 8 (.int .u64 ((s.bs.short).lo : Int)) rfl rfl rfl rfl rfl).set (s' := { s with bs := s.bs.short }) 9 (.int .u64 ((s.bs.short).bw : Int)) rfl rfl rfl rfl rfl)
  clear hb
  have y13 := MF.out.at_.e.free 13
  have y14 := MF.out.at_.e.free 14
  have y15 := MF.out.at_.e.free 15
  have d13 := MF.out.at_.e.cell (i := 13) (v := .int .i64 s.st) rfl
  have d14 := MF.out.at_.e.cell (i := 14) (v := .int .u64 (s.began : Int)) rfl
  have d15 := MF.out.at_.e.cell (i := 15) (v := .int .u64 (s.rounds : Int)) rfl
  have MZ := Lib.hid (((MF.out.set (s' := { { s with bs := s.bs.short } with st := t }) 13 (.int .i64 t) rfl rfl rfl rfl rfl).set (s' := { { s with bs := s.bs.short } with st := t, began := now }) 14 (.int .u64 (now : Int)) rfl rfl rfl rfl rfl).set (s' := { { s with bs := s.bs.short } with st := t, began := now, rounds := 0 }) 15 (.int .u64 0) rfl rfl rfl rfl rfl)
  go_wp2_with fail
  go_end0
  exact MZ.out.post

set_option maxHeartbeats 1000000 in
theorem en_turn_next {B k : Nat} {P : EP} {s : ES} (now : Nat) (t : Int) (W : World) (h : EngAt W B P s) (ho : s.ok k) (h5 : s.st = 5) (t2 : t = 2) :
    Calls Tryz.prog 39 #[.pointer (some ⟨P.b, 0, none⟩), .int .u64 (now : Int), .int .i64 t] W (EPost B P (.returned (.tuple #[])) { { s with y := s.y.next } with st := t, began := now, rounds := 0 } W) := by
  have z0 : (t == s.st) = false := beq_eq_false_iff_ne.2 (by omega)
  have z1 : (s.st == 6) = false := beq_eq_false_iff_ne.2 (by omega)
  have z2 : (t == 6) = false := beq_eq_false_iff_ne.2 (by omega)
  have z3 : (t == 4) = false := beq_eq_false_iff_ne.2 (by omega)
  have z4 : (s.st == 5) = true := beq_iff_eq.2 h5
  have z5 : (t == 2) = true := beq_iff_eq.2 t2
  have M0 := Lib.hid (MutN.start h)
  have g13 := M0.out.at_.e.cell (i := 13) (v := .int .i64 s.st) rfl
  have g11 := M0.out.at_.e.cell (i := 11) (v := .pointer (some ⟨P.y, 0, none⟩)) rfl
  have HN := Lib.hid (cy_Next P.y s.y W h.y)
  clear ho h5 t2
  go_enter Tryz.func39, Tryz.ntmps39
  go_wp2_with fail
  refine (HN.out).mono ?_
  rintro e w1 ⟨rfl, hy, hg⟩
  have MF := Lib.hid (MutN.cy h hy hg)
  clear h hy hg
  have y13 := MF.out.at_.e.free 13
  have y14 := MF.out.at_.e.free 14
  have y15 := MF.out.at_.e.free 15
  have d13 := MF.out.at_.e.cell (i := 13) (v := .int .i64 s.st) rfl
  have d14 := MF.out.at_.e.cell (i := 14) (v := .int .u64 (s.began : Int)) rfl
  have d15 := MF.out.at_.e.cell (i := 15) (v := .int .u64 (s.rounds : Int)) rfl
  have MZ := Lib.hid (((MF.out.set (s' := { { s with y := s.y.next } with st := t }) 13 (.int .i64 t) rfl rfl rfl rfl rfl).set (s' := { { s with y := s.y.next } with st := t, began := now }) 14 (.int .u64 (now : Int)) rfl rfl rfl rfl rfl).set (s' := { { s with y := s.y.next } with st := t, began := now, rounds := 0 }) 15 (.int .u64 0) rfl rfl rfl rfl rfl)
  go_wp2_with fail
  go_end0
  exact MZ.out.post

set_option maxHeartbeats 1000000 in
theorem en_turn_ended {B k : Nat} {P : EP} {s : ES} (now : Nat) (t : Int) (W : World) (h : EngAt W B P s) (ho : s.ok k) (hn : t ≠ s.st) (h6 : s.st = 6) :
    Calls Tryz.prog 39 #[.pointer (some ⟨P.b, 0, none⟩), .int .u64 (now : Int), .int .i64 t] W (EPost B P (.returned (.tuple #[])) { { s with ended := now, cwnd := max s.cwnd s.kept } with st := t, began := now, rounds := 0 } W) := by
  have z0 : (t == s.st) = false := beq_eq_false_iff_ne.2 (hn)
  have z1 : (s.st == 6) = true := beq_iff_eq.2 h6
  have M0 := Lib.hid (MutN.start h)
  have g13 := M0.out.at_.e.cell (i := 13) (v := .int .i64 s.st) rfl
  have g20 := M0.out.at_.e.cell (i := 20) (v := .int .u64 (s.ended : Int)) rfl
  have y20 := M0.out.at_.e.free 20
  have hm : max (s.cwnd : Int) (s.kept : Int) = ((max s.cwnd s.kept : Nat) : Int) := by omega
  have M1 := Lib.hid (M0.out.set (s' := { s with ended := now }) 20 (.int .u64 (now : Int)) rfl rfl rfl rfl rfl)
  have MF := Lib.hid (M1.out.set (s' := { s with ended := now, cwnd := max s.cwnd s.kept }) 18 (.int .u64 ((max s.cwnd s.kept : Nat) : Int)) rfl rfl rfl rfl rfl).drew
  have g18 := M1.out.at_.e.cell (i := 18) (v := .int .u64 (s.cwnd : Int)) rfl
  have g19 := M1.out.at_.e.cell (i := 19) (v := .int .u64 (s.kept : Int)) rfl
  have y18 := M1.out.at_.e.free 18
  clear h ho hn h6
  go_enter Tryz.func39, Tryz.ntmps39
  go_wp2_with fail
  generalize W.setCell ⟨P.b, 20, none⟩ (.int .u64 (now : Int)) = w1 at *
  go_region
  have y13 := M1.out.at_.e.free 13
  have y14 := M1.out.at_.e.free 14
  have y15 := M1.out.at_.e.free 15
  have d13 := M1.out.at_.e.cell (i := 13) (v := .int .i64 s.st) rfl
  have d14 := M1.out.at_.e.cell (i := 14) (v := .int .u64 (s.began : Int)) rfl
  have d15 := M1.out.at_.e.cell (i := 15) (v := .int .u64 (s.rounds : Int)) rfl
  have MZ := Lib.hid (((MF.out.set (s' := { { s with ended := now, cwnd := max s.cwnd s.kept } with st := t }) 13 (.int .i64 t) rfl rfl rfl rfl rfl).set (s' := { { s with ended := now, cwnd := max s.cwnd s.kept } with st := t, began := now }) 14 (.int .u64 (now : Int)) rfl rfl rfl rfl rfl).set (s' := { { s with ended := now, cwnd := max s.cwnd s.kept } with st := t, began := now, rounds := 0 }) 15 (.int .u64 0) rfl rfl rfl rfl rfl)
  go_wp2_with fail
  go_end0
  exact MZ.out.post

end Go.Proofs.YtpkbjfhicocogaaGreatDoor

/- Contracts of package bbr over this translation: open. -/
set_option linter.unusedVariables false
namespace Go.Proofs.YtpkbjfhicocogaaGreatDoor
open Go.RowKit Cf

theorem ei_k {W w w' : World} {B : Nat} {P : EP} {s : ES} (h : Hid (EngI W B P s w)) (k : Below w.heap.size w w') : Hid (EngI W B P s w') := h.out.to k
theorem ei_r {W : World} {B : Nat} {P : EP} {s : ES} {i : Nat} {v : Value} (hv : (ecells P s)[i]? = some v) : ∀ w, Hid (EngI W B P s w) → w.cell? ⟨P.b, i, none⟩ = some v := fun w q => q.out.at_.e.cell hv
/-- bound's Cap of one number, wherever it lies. -/
theorem cap_any (bs : BS) (x b : Nat) (W : World) (h : W.cell? ⟨b, 0, none⟩ = some (.int .u64 (x : Int))) :
    Calls Tryz.prog 91 #[.agg bs.cells, .slice (some ⟨b, 0, none⟩) 1 1] W fun e w' => e = .returned (.int .u64 ((bs.cap [x] : Nat) : Int)) ∧ Below W.heap.size W w' :=
  bd_Cap bs (some ⟨b, 0, none⟩) 1 [x] W (by simp) (fun _ => ⟨b, 0, rfl, World.block_lt_of_cell? W _ h, row1 h⟩)
theorem nc1e (W : World) (b x : Nat) (T : TypeId) (hb : b = W.heap.size) : (W.alloc (.cells #[.int .u64 (x : Int)] T)).cell? ⟨b, 0, none⟩ = some (.int .u64 (x : Int)) := by subst hb; exact new_cell rfl rfl
theorem nc2f (W : World) (b x y : Nat) (T : TypeId) (hb : b = W.heap.size) : (W.alloc (.cells #[.int .u64 (x : Int), .int .u64 (y : Int)] T)).cell? ⟨b, 0, none⟩ = some (.int .u64 (x : Int)) ∧ (W.alloc (.cells #[.int .u64 (x : Int), .int .u64 (y : Int)] T)).cell? ⟨b, 1, none⟩ = some (.int .u64 (y : Int)) := by subst hb; exact ⟨new_cell rfl rfl, new_cell rfl rfl⟩

set_option maxHeartbeats 1000000 in
theorem en_open0 {B k : Nat} {P : EP} {s : ES} (ac : Nat) (hac : ac ≤ 18446744073709551615) (W : World) (h : EngAt W B P s) (ho : s.ok k) (hs : s.st = 0) (hf : s.p.full = false)
    {a wi q ad le rm c2 z : Nat} (ha : a = Pl.addS s.cwnd ac) (hwi : wi = windowG (stG s.st) s.uses) (hq : q = s.quant) (had : ad = Pl.addS wi q) (hle : le = leastC s.c) (hrm : rm = s.bs.room) (hc2 : c2 = s.bs.cap [a]) (hz : z = min (max (c2) le) 72057594037927936) :
    Calls Tryz.prog 43 #[.pointer (some ⟨P.b, 0, none⟩), .int .u64 (ac : Int)] W fun e w' => e = .returned (.int .u64 (z : Int)) ∧ Below W.heap.size W w' := by
  have HA := Lib.hid (add_any s.cwnd ac ho.cwnd hac)
  have HU := Lib.hid (fun w h => en_uses (B := B) (P := P) (s := s) w h ho)
  have HW := Lib.hid (fun w h => ga_Window s.st s.uses (ES.uses_le s) w h)
  have HF : Hid (∀ w, EngAt w B P s → Calls Tryz.prog 74 #[.pointer (some ⟨P.p, 0, none⟩)] w fun e w' => e = .returned (.bool s.p.full) ∧ Below w.heap.size w w') := Lib.hid (fun w hw => (pi_Full P.p s.p w hw.p).mono fun e w' q => ⟨q.1, q.2 ▸ Below.refl _ _⟩)
  have HQ := Lib.hid (fun w h => en_Quantum (B := B) (P := P) (s := s) w h ho)
  have HD := Lib.hid (add_any wi q (by rw [hwi]; exact windowG_le _ _) (by rw [hq]; exact ES.quant_le s))
  have HC := Lib.hid (fun b w h => cap_any s.bs (a) b w h)
  have HR := Lib.hid (fun w => bd_Room s.bs w ho.bs)
  have HL := Lib.hid (fun w => conf_Least s.c w ho.c)
  have hm1 : min (a : Int) (ad : Int) = ((min a ad : Nat) : Int) := by omega
  have hm2 : min (c2 : Int) (rm : Int) = ((min c2 rm : Nat) : Int) := by omega
  have hm3 : min (c2 : Int) (wi : Int) = ((min c2 wi : Nat) : Int) := by omega
  have hm4 : max (((c2) : Nat) : Int) (le : Int) = ((max (c2) le : Nat) : Int) := by omega
  have hm5 : min ((max (c2) le : Nat) : Int) 72057594037927936 = (z : Int) := by omega
  have z0 : (s.st == 0) = true := beq_iff_eq.2 hs
  have z2 : (s.st == 2) = false := beq_eq_false_iff_ne.2 (by omega)
  have z3 : (s.st == 3) = false := beq_eq_false_iff_ne.2 (by omega)
  have z6 : (s.st == 6) = false := beq_eq_false_iff_ne.2 (by omega)
  have zn : (s.st != 0) = false := by simp [bne, z0]
  rw [hf] at HF
  have I0 := Lib.hid (EngI.start h)
  have c18 := h.e.cell (i := 18) (v := .int .u64 (s.cwnd : Int)) rfl
  rw [← ha] at HA
  rw [← hwi] at HW
  rw [← hq] at HQ
  rw [← had] at HD
  rw [← hc2] at HC
  rw [← hrm] at HR
  rw [← hle] at HL
  clear h ho hac ha hwi hq had hle hrm hc2 hz hs hf
  generalize s.uses = us at *
  generalize min (max (c2) le) 72057594037927936 = zz at *
  generalize hoo : (a) = o1 at *
  generalize hvv : (c2) = v3 at *
  generalize max v3 le = mx at *
  simp only [BS.cells] at HC HR
  simp only [ccells] at HL
  go_enter Tryz.func43, Tryz.ntmps43
  go_wp2_with fail
  refine (HA.out _ _ (by exact (nc2f _ _ _ _ _ (by simp)).1) (by exact (nc2f _ _ _ _ _ (by simp)).2)).mono ?_
  rintro e w1 ⟨rfl, hb⟩
  have I1 := Lib.hid ((I0.out.to (al_be _ _)).to hb)
  clear hb c18 I0 HA
  go_wp2_with fail
  have I2 := Lib.hid I1.out.drew
  have r13 := ei_r (W := W) (B := B) (P := P) (s := s) (i := 13) (v := .int .i64 s.st) rfl
  go_region_held3 (fun w' => Hid (EngI W B P s w'))
    (first | with_reducible exact ei_k (by assumption) hb | with_reducible exact I2)
    (first
      | (go_at_call 90; (with_reducible refine (HU.out _ (Hid.out (by assumption) : EngI W B P s _).at_).mono ?_); rintro e w' ⟨rfl, hb⟩)
      | (go_at_call 89; (with_reducible refine (HW.out _ (Hid.out (by assumption) : EngI W B P s _).at_.gl).mono ?_); rintro e w' ⟨rfl, hb⟩))
  have I3 : Hid (EngI W B P s w') := by assumption
  clear r13 hb I1 I2
  have c13 := I3.out.at_.e.cell (i := 13) (v := .int .i64 s.st) rfl
  have c6 := I3.out.at_.e.cell (i := 6) (v := .pointer (some ⟨P.p, 0, none⟩)) rfl
  have c7 := I3.out.at_.e.cell (i := 7) (v := .int .u64 (s.bs.hi : Int)) rfl
  have c8 := I3.out.at_.e.cell (i := 8) (v := .int .u64 (s.bs.lo : Int)) rfl
  have c9 := I3.out.at_.e.cell (i := 9) (v := .int .u64 (s.bs.bw : Int)) rfl
  go_wp2_with fail
  refine (HF.out _ I3.out.at_).mono ?_
  rintro e w13 ⟨rfl, hb⟩
  have I4 := Lib.hid (I3.out.to hb)
  clear hb
  have c7 := I4.out.at_.e.cell (i := 7) (v := .int .u64 (s.bs.hi : Int)) rfl
  have c8 := I4.out.at_.e.cell (i := 8) (v := .int .u64 (s.bs.lo : Int)) rfl
  have c9 := I4.out.at_.e.cell (i := 9) (v := .int .u64 (s.bs.bw : Int)) rfl
  have c13 := I4.out.at_.e.cell (i := 13) (v := .int .i64 s.st) rfl
  go_wp2_with fail
  refine (HC.out _ _ (by first | exact nc1e _ _ _ _ (by simp) | (rw [hoo]; exact nc1e _ _ _ _ (by simp)))).mono ?_
  rintro e w14 ⟨rfl, hb⟩
  have I5 := Lib.hid ((I4.out.to (al_be _ _)).to hb)
  clear hb
  have c7 := I5.out.at_.e.cell (i := 7) (v := .int .u64 (s.bs.hi : Int)) rfl
  have c8 := I5.out.at_.e.cell (i := 8) (v := .int .u64 (s.bs.lo : Int)) rfl
  have c9 := I5.out.at_.e.cell (i := 9) (v := .int .u64 (s.bs.bw : Int)) rfl
  have c13 := I5.out.at_.e.cell (i := 13) (v := .int .i64 s.st) rfl
  have c0 := I5.out.at_.e.cell (i := 0) (v := .int .u64 (s.c 0 : Int)) rfl
  have c1 := I5.out.at_.e.cell (i := 1) (v := .int .u64 (s.c 1 : Int)) rfl
  have c2 := I5.out.at_.e.cell (i := 2) (v := .int .u64 (s.c 2 : Int)) rfl
  have c3 := I5.out.at_.e.cell (i := 3) (v := .int .u64 (s.c 3 : Int)) rfl
  have c4 := I5.out.at_.e.cell (i := 4) (v := .int .u64 (s.c 4 : Int)) rfl
  have c5 := I5.out.at_.e.cell (i := 5) (v := .int .u64 (s.c 5 : Int)) rfl
  go_wp2_with fail
  refine (HL.out _).mono ?_
  rintro e w15 ⟨rfl, hb⟩
  have I6 := Lib.hid (I5.out.to hb)
  clear hb
  go_wp2_with fail
  all_goals
    go_ret
    refine ⟨ret_u64 ?_, I6.out.bel⟩
    first | rfl | exact hm5 | omega

set_option maxHeartbeats 1000000 in
theorem en_open0f {B k : Nat} {P : EP} {s : ES} (ac : Nat) (hac : ac ≤ 18446744073709551615) (W : World) (h : EngAt W B P s) (ho : s.ok k) (hs : s.st = 0) (hf : s.p.full = true)
    {a wi q ad le rm c2 z : Nat} (ha : a = Pl.addS s.cwnd ac) (hwi : wi = windowG (stG s.st) s.uses) (hq : q = s.quant) (had : ad = Pl.addS wi q) (hle : le = leastC s.c) (hrm : rm = s.bs.room) (hc2 : c2 = s.bs.cap [min a ad]) (hz : z = min (max (c2) le) 72057594037927936) :
    Calls Tryz.prog 43 #[.pointer (some ⟨P.b, 0, none⟩), .int .u64 (ac : Int)] W fun e w' => e = .returned (.int .u64 (z : Int)) ∧ Below W.heap.size W w' := by
  have HA := Lib.hid (add_any s.cwnd ac ho.cwnd hac)
  have HU := Lib.hid (fun w h => en_uses (B := B) (P := P) (s := s) w h ho)
  have HW := Lib.hid (fun w h => ga_Window s.st s.uses (ES.uses_le s) w h)
  have HF : Hid (∀ w, EngAt w B P s → Calls Tryz.prog 74 #[.pointer (some ⟨P.p, 0, none⟩)] w fun e w' => e = .returned (.bool s.p.full) ∧ Below w.heap.size w w') := Lib.hid (fun w hw => (pi_Full P.p s.p w hw.p).mono fun e w' q => ⟨q.1, q.2 ▸ Below.refl _ _⟩)
  have HQ := Lib.hid (fun w h => en_Quantum (B := B) (P := P) (s := s) w h ho)
  have HD := Lib.hid (add_any wi q (by rw [hwi]; exact windowG_le _ _) (by rw [hq]; exact ES.quant_le s))
  have HC := Lib.hid (fun b w h => cap_any s.bs (min a ad) b w h)
  have HR := Lib.hid (fun w => bd_Room s.bs w ho.bs)
  have HL := Lib.hid (fun w => conf_Least s.c w ho.c)
  have hm1 : min (a : Int) (ad : Int) = ((min a ad : Nat) : Int) := by omega
  have hm2 : min (c2 : Int) (rm : Int) = ((min c2 rm : Nat) : Int) := by omega
  have hm3 : min (c2 : Int) (wi : Int) = ((min c2 wi : Nat) : Int) := by omega
  have hm4 : max (((c2) : Nat) : Int) (le : Int) = ((max (c2) le : Nat) : Int) := by omega
  have hm5 : min ((max (c2) le : Nat) : Int) 72057594037927936 = (z : Int) := by omega
  have z0 : (s.st == 0) = true := beq_iff_eq.2 hs
  have z2 : (s.st == 2) = false := beq_eq_false_iff_ne.2 (by omega)
  have z3 : (s.st == 3) = false := beq_eq_false_iff_ne.2 (by omega)
  have z6 : (s.st == 6) = false := beq_eq_false_iff_ne.2 (by omega)
  have zn : (s.st != 0) = false := by simp [bne, z0]
  rw [hf] at HF
  have I0 := Lib.hid (EngI.start h)
  have c18 := h.e.cell (i := 18) (v := .int .u64 (s.cwnd : Int)) rfl
  rw [← ha] at HA
  rw [← hwi] at HW
  rw [← hq] at HQ
  rw [← had] at HD
  rw [← hc2] at HC
  rw [← hrm] at HR
  rw [← hle] at HL
  clear h ho hac ha hwi hq had hle hrm hc2 hz hs hf
  generalize s.uses = us at *
  generalize min (max (c2) le) 72057594037927936 = zz at *
  generalize hoo : (min a ad) = o1 at *
  generalize hvv : (c2) = v3 at *
  generalize max v3 le = mx at *
  simp only [BS.cells] at HC HR
  simp only [ccells] at HL
  go_enter Tryz.func43, Tryz.ntmps43
  go_wp2_with fail
  refine (HA.out _ _ (by exact (nc2f _ _ _ _ _ (by simp)).1) (by exact (nc2f _ _ _ _ _ (by simp)).2)).mono ?_
  rintro e w1 ⟨rfl, hb⟩
  have I1 := Lib.hid ((I0.out.to (al_be _ _)).to hb)
  clear hb c18 I0 HA
  go_wp2_with fail
  have I2 := Lib.hid I1.out.drew
  have r13 := ei_r (W := W) (B := B) (P := P) (s := s) (i := 13) (v := .int .i64 s.st) rfl
  go_region_held3 (fun w' => Hid (EngI W B P s w'))
    (first | with_reducible exact ei_k (by assumption) hb | with_reducible exact I2)
    (first
      | (go_at_call 90; (with_reducible refine (HU.out _ (Hid.out (by assumption) : EngI W B P s _).at_).mono ?_); rintro e w' ⟨rfl, hb⟩)
      | (go_at_call 89; (with_reducible refine (HW.out _ (Hid.out (by assumption) : EngI W B P s _).at_.gl).mono ?_); rintro e w' ⟨rfl, hb⟩))
  have I3 : Hid (EngI W B P s w') := by assumption
  clear r13 hb I1 I2
  have c13 := I3.out.at_.e.cell (i := 13) (v := .int .i64 s.st) rfl
  have c6 := I3.out.at_.e.cell (i := 6) (v := .pointer (some ⟨P.p, 0, none⟩)) rfl
  have c7 := I3.out.at_.e.cell (i := 7) (v := .int .u64 (s.bs.hi : Int)) rfl
  have c8 := I3.out.at_.e.cell (i := 8) (v := .int .u64 (s.bs.lo : Int)) rfl
  have c9 := I3.out.at_.e.cell (i := 9) (v := .int .u64 (s.bs.bw : Int)) rfl
  go_wp2_with fail
  refine (HF.out _ I3.out.at_).mono ?_
  rintro e w13 ⟨rfl, hb⟩
  have I4 := Lib.hid (I3.out.to hb)
  clear hb
  have c7 := I4.out.at_.e.cell (i := 7) (v := .int .u64 (s.bs.hi : Int)) rfl
  have c8 := I4.out.at_.e.cell (i := 8) (v := .int .u64 (s.bs.lo : Int)) rfl
  have c9 := I4.out.at_.e.cell (i := 9) (v := .int .u64 (s.bs.bw : Int)) rfl
  have c13 := I4.out.at_.e.cell (i := 13) (v := .int .i64 s.st) rfl
  go_wp2_with fail
  refine (HQ.out _ I4.out.at_).mono ?_
  rintro e w14 ⟨rfl, hb⟩
  have I5 := Lib.hid (I4.out.to hb)
  clear hb
  go_wp2_with fail
  refine (HD.out _ _ (by exact (nc2f _ _ _ _ _ (by simp)).1) (by exact (nc2f _ _ _ _ _ (by simp)).2)).mono ?_
  rintro e w15 ⟨rfl, hb⟩
  have I6 := Lib.hid ((I5.out.to (al_be _ _)).to hb)
  clear hb
  have c7 := I6.out.at_.e.cell (i := 7) (v := .int .u64 (s.bs.hi : Int)) rfl
  have c8 := I6.out.at_.e.cell (i := 8) (v := .int .u64 (s.bs.lo : Int)) rfl
  have c9 := I6.out.at_.e.cell (i := 9) (v := .int .u64 (s.bs.bw : Int)) rfl
  have c13 := I6.out.at_.e.cell (i := 13) (v := .int .i64 s.st) rfl
  go_wp2_with fail
  refine (HC.out _ _ (by first | exact nc1e _ _ _ _ (by simp) | (rw [hoo]; exact nc1e _ _ _ _ (by simp)))).mono ?_
  rintro e w16 ⟨rfl, hb⟩
  have I7 := Lib.hid ((I6.out.to (al_be _ _)).to hb)
  clear hb
  have c7 := I7.out.at_.e.cell (i := 7) (v := .int .u64 (s.bs.hi : Int)) rfl
  have c8 := I7.out.at_.e.cell (i := 8) (v := .int .u64 (s.bs.lo : Int)) rfl
  have c9 := I7.out.at_.e.cell (i := 9) (v := .int .u64 (s.bs.bw : Int)) rfl
  have c13 := I7.out.at_.e.cell (i := 13) (v := .int .i64 s.st) rfl
  have c0 := I7.out.at_.e.cell (i := 0) (v := .int .u64 (s.c 0 : Int)) rfl
  have c1 := I7.out.at_.e.cell (i := 1) (v := .int .u64 (s.c 1 : Int)) rfl
  have c2 := I7.out.at_.e.cell (i := 2) (v := .int .u64 (s.c 2 : Int)) rfl
  have c3 := I7.out.at_.e.cell (i := 3) (v := .int .u64 (s.c 3 : Int)) rfl
  have c4 := I7.out.at_.e.cell (i := 4) (v := .int .u64 (s.c 4 : Int)) rfl
  have c5 := I7.out.at_.e.cell (i := 5) (v := .int .u64 (s.c 5 : Int)) rfl
  go_wp2_with fail
  refine (HL.out _).mono ?_
  rintro e w17 ⟨rfl, hb⟩
  have I8 := Lib.hid (I7.out.to hb)
  clear hb
  go_wp2_with fail
  all_goals
    go_ret
    refine ⟨ret_u64 ?_, I8.out.bel⟩
    first | rfl | exact hm5 | omega

set_option maxHeartbeats 1000000 in
theorem en_open2 {B k : Nat} {P : EP} {s : ES} (ac : Nat) (hac : ac ≤ 18446744073709551615) (W : World) (h : EngAt W B P s) (ho : s.ok k) (hs : s.st = 2)
    {a wi q ad le rm c2 z : Nat} (ha : a = Pl.addS s.cwnd ac) (hwi : wi = windowG (stG s.st) s.uses) (hq : q = s.quant) (had : ad = Pl.addS wi q) (hle : le = leastC s.c) (hrm : rm = s.bs.room) (hc2 : c2 = s.bs.cap [min a ad]) (hz : z = min (max (min c2 rm) le) 72057594037927936) :
    Calls Tryz.prog 43 #[.pointer (some ⟨P.b, 0, none⟩), .int .u64 (ac : Int)] W fun e w' => e = .returned (.int .u64 (z : Int)) ∧ Below W.heap.size W w' := by
  have HA := Lib.hid (add_any s.cwnd ac ho.cwnd hac)
  have HU := Lib.hid (fun w h => en_uses (B := B) (P := P) (s := s) w h ho)
  have HW := Lib.hid (fun w h => ga_Window s.st s.uses (ES.uses_le s) w h)
  have HF : Hid (∀ w, EngAt w B P s → Calls Tryz.prog 74 #[.pointer (some ⟨P.p, 0, none⟩)] w fun e w' => e = .returned (.bool s.p.full) ∧ Below w.heap.size w w') := Lib.hid (fun w hw => (pi_Full P.p s.p w hw.p).mono fun e w' q => ⟨q.1, q.2 ▸ Below.refl _ _⟩)
  have HQ := Lib.hid (fun w h => en_Quantum (B := B) (P := P) (s := s) w h ho)
  have HD := Lib.hid (add_any wi q (by rw [hwi]; exact windowG_le _ _) (by rw [hq]; exact ES.quant_le s))
  have HC := Lib.hid (fun b w h => cap_any s.bs (min a ad) b w h)
  have HR := Lib.hid (fun w => bd_Room s.bs w ho.bs)
  have HL := Lib.hid (fun w => conf_Least s.c w ho.c)
  have hm1 : min (a : Int) (ad : Int) = ((min a ad : Nat) : Int) := by omega
  have hm2 : min (c2 : Int) (rm : Int) = ((min c2 rm : Nat) : Int) := by omega
  have hm3 : min (c2 : Int) (wi : Int) = ((min c2 wi : Nat) : Int) := by omega
  have hm4 : max (((min c2 rm) : Nat) : Int) (le : Int) = ((max (min c2 rm) le : Nat) : Int) := by omega
  have hm5 : min ((max (min c2 rm) le : Nat) : Int) 72057594037927936 = (z : Int) := by omega
  have z0 : (s.st == 0) = false := beq_eq_false_iff_ne.2 (by omega)
  have z2 : (s.st == 2) = true := beq_iff_eq.2 hs
  have z3 : (s.st == 3) = false := beq_eq_false_iff_ne.2 (by omega)
  have z6 : (s.st == 6) = false := beq_eq_false_iff_ne.2 (by omega)
  have zn : (s.st != 0) = true := by simp [bne, z0]
  have I0 := Lib.hid (EngI.start h)
  have c18 := h.e.cell (i := 18) (v := .int .u64 (s.cwnd : Int)) rfl
  rw [← ha] at HA
  rw [← hwi] at HW
  rw [← hq] at HQ
  rw [← had] at HD
  rw [← hc2] at HC
  rw [← hrm] at HR
  rw [← hle] at HL
  clear h ho hac ha hwi hq had hle hrm hc2 hz hs
  generalize s.uses = us at *
  generalize min (max (min c2 rm) le) 72057594037927936 = zz at *
  generalize hoo : (min a ad) = o1 at *
  generalize hvv : (min c2 rm) = v3 at *
  generalize max v3 le = mx at *
  simp only [BS.cells] at HC HR
  simp only [ccells] at HL
  go_enter Tryz.func43, Tryz.ntmps43
  go_wp2_with fail
  refine (HA.out _ _ (by exact (nc2f _ _ _ _ _ (by simp)).1) (by exact (nc2f _ _ _ _ _ (by simp)).2)).mono ?_
  rintro e w1 ⟨rfl, hb⟩
  have I1 := Lib.hid ((I0.out.to (al_be _ _)).to hb)
  clear hb c18 I0 HA
  go_wp2_with fail
  have I2 := Lib.hid I1.out.drew
  have r13 := ei_r (W := W) (B := B) (P := P) (s := s) (i := 13) (v := .int .i64 s.st) rfl
  go_region_held3 (fun w' => Hid (EngI W B P s w'))
    (first | with_reducible exact ei_k (by assumption) hb | with_reducible exact I2)
    (first
      | (go_at_call 90; (with_reducible refine (HU.out _ (Hid.out (by assumption) : EngI W B P s _).at_).mono ?_); rintro e w' ⟨rfl, hb⟩)
      | (go_at_call 89; (with_reducible refine (HW.out _ (Hid.out (by assumption) : EngI W B P s _).at_.gl).mono ?_); rintro e w' ⟨rfl, hb⟩))
  have I3 : Hid (EngI W B P s w') := by assumption
  clear r13 hb I1 I2
  have c13 := I3.out.at_.e.cell (i := 13) (v := .int .i64 s.st) rfl
  have c6 := I3.out.at_.e.cell (i := 6) (v := .pointer (some ⟨P.p, 0, none⟩)) rfl
  have c7 := I3.out.at_.e.cell (i := 7) (v := .int .u64 (s.bs.hi : Int)) rfl
  have c8 := I3.out.at_.e.cell (i := 8) (v := .int .u64 (s.bs.lo : Int)) rfl
  have c9 := I3.out.at_.e.cell (i := 9) (v := .int .u64 (s.bs.bw : Int)) rfl
  go_wp2_with fail
  refine (HQ.out _ I3.out.at_).mono ?_
  rintro e w13 ⟨rfl, hb⟩
  have I4 := Lib.hid (I3.out.to hb)
  clear hb
  go_wp2_with fail
  refine (HD.out _ _ (by exact (nc2f _ _ _ _ _ (by simp)).1) (by exact (nc2f _ _ _ _ _ (by simp)).2)).mono ?_
  rintro e w14 ⟨rfl, hb⟩
  have I5 := Lib.hid ((I4.out.to (al_be _ _)).to hb)
  clear hb
  have c7 := I5.out.at_.e.cell (i := 7) (v := .int .u64 (s.bs.hi : Int)) rfl
  have c8 := I5.out.at_.e.cell (i := 8) (v := .int .u64 (s.bs.lo : Int)) rfl
  have c9 := I5.out.at_.e.cell (i := 9) (v := .int .u64 (s.bs.bw : Int)) rfl
  have c13 := I5.out.at_.e.cell (i := 13) (v := .int .i64 s.st) rfl
  go_wp2_with fail
  refine (HC.out _ _ (by first | exact nc1e _ _ _ _ (by simp) | (rw [hoo]; exact nc1e _ _ _ _ (by simp)))).mono ?_
  rintro e w15 ⟨rfl, hb⟩
  have I6 := Lib.hid ((I5.out.to (al_be _ _)).to hb)
  clear hb
  have c7 := I6.out.at_.e.cell (i := 7) (v := .int .u64 (s.bs.hi : Int)) rfl
  have c8 := I6.out.at_.e.cell (i := 8) (v := .int .u64 (s.bs.lo : Int)) rfl
  have c9 := I6.out.at_.e.cell (i := 9) (v := .int .u64 (s.bs.bw : Int)) rfl
  have c13 := I6.out.at_.e.cell (i := 13) (v := .int .i64 s.st) rfl
  have c0 := I6.out.at_.e.cell (i := 0) (v := .int .u64 (s.c 0 : Int)) rfl
  have c1 := I6.out.at_.e.cell (i := 1) (v := .int .u64 (s.c 1 : Int)) rfl
  have c2 := I6.out.at_.e.cell (i := 2) (v := .int .u64 (s.c 2 : Int)) rfl
  have c3 := I6.out.at_.e.cell (i := 3) (v := .int .u64 (s.c 3 : Int)) rfl
  have c4 := I6.out.at_.e.cell (i := 4) (v := .int .u64 (s.c 4 : Int)) rfl
  have c5 := I6.out.at_.e.cell (i := 5) (v := .int .u64 (s.c 5 : Int)) rfl
  go_wp2_with fail
  refine (HR.out _).mono ?_
  rintro e w16 ⟨rfl, hb⟩
  have I7 := Lib.hid (I6.out.to hb)
  clear hb
  have c0 := I7.out.at_.e.cell (i := 0) (v := .int .u64 (s.c 0 : Int)) rfl
  have c1 := I7.out.at_.e.cell (i := 1) (v := .int .u64 (s.c 1 : Int)) rfl
  have c2 := I7.out.at_.e.cell (i := 2) (v := .int .u64 (s.c 2 : Int)) rfl
  have c3 := I7.out.at_.e.cell (i := 3) (v := .int .u64 (s.c 3 : Int)) rfl
  have c4 := I7.out.at_.e.cell (i := 4) (v := .int .u64 (s.c 4 : Int)) rfl
  have c5 := I7.out.at_.e.cell (i := 5) (v := .int .u64 (s.c 5 : Int)) rfl
  go_wp2_with fail
  refine (HL.out _).mono ?_
  rintro e w17 ⟨rfl, hb⟩
  have I8 := Lib.hid (I7.out.to hb)
  clear hb
  go_wp2_with fail
  all_goals
    go_ret
    refine ⟨ret_u64 ?_, I8.out.bel⟩
    first | rfl | exact hm5 | omega

set_option maxHeartbeats 1000000 in
theorem en_open3 {B k : Nat} {P : EP} {s : ES} (ac : Nat) (hac : ac ≤ 18446744073709551615) (W : World) (h : EngAt W B P s) (ho : s.ok k) (hs : s.st = 3)
    {a wi q ad le rm c2 z : Nat} (ha : a = Pl.addS s.cwnd ac) (hwi : wi = windowG (stG s.st) s.uses) (hq : q = s.quant) (had : ad = Pl.addS wi q) (hle : le = leastC s.c) (hrm : rm = s.bs.room) (hc2 : c2 = s.bs.cap [min a ad]) (hz : z = min (max (min c2 rm) le) 72057594037927936) :
    Calls Tryz.prog 43 #[.pointer (some ⟨P.b, 0, none⟩), .int .u64 (ac : Int)] W fun e w' => e = .returned (.int .u64 (z : Int)) ∧ Below W.heap.size W w' := by
  have HA := Lib.hid (add_any s.cwnd ac ho.cwnd hac)
  have HU := Lib.hid (fun w h => en_uses (B := B) (P := P) (s := s) w h ho)
  have HW := Lib.hid (fun w h => ga_Window s.st s.uses (ES.uses_le s) w h)
  have HF : Hid (∀ w, EngAt w B P s → Calls Tryz.prog 74 #[.pointer (some ⟨P.p, 0, none⟩)] w fun e w' => e = .returned (.bool s.p.full) ∧ Below w.heap.size w w') := Lib.hid (fun w hw => (pi_Full P.p s.p w hw.p).mono fun e w' q => ⟨q.1, q.2 ▸ Below.refl _ _⟩)
  have HQ := Lib.hid (fun w h => en_Quantum (B := B) (P := P) (s := s) w h ho)
  have HD := Lib.hid (add_any wi q (by rw [hwi]; exact windowG_le _ _) (by rw [hq]; exact ES.quant_le s))
  have HC := Lib.hid (fun b w h => cap_any s.bs (min a ad) b w h)
  have HR := Lib.hid (fun w => bd_Room s.bs w ho.bs)
  have HL := Lib.hid (fun w => conf_Least s.c w ho.c)
  have hm1 : min (a : Int) (ad : Int) = ((min a ad : Nat) : Int) := by omega
  have hm2 : min (c2 : Int) (rm : Int) = ((min c2 rm : Nat) : Int) := by omega
  have hm3 : min (c2 : Int) (wi : Int) = ((min c2 wi : Nat) : Int) := by omega
  have hm4 : max (((min c2 rm) : Nat) : Int) (le : Int) = ((max (min c2 rm) le : Nat) : Int) := by omega
  have hm5 : min ((max (min c2 rm) le : Nat) : Int) 72057594037927936 = (z : Int) := by omega
  have z0 : (s.st == 0) = false := beq_eq_false_iff_ne.2 (by omega)
  have z2 : (s.st == 2) = false := beq_eq_false_iff_ne.2 (by omega)
  have z3 : (s.st == 3) = true := beq_iff_eq.2 hs
  have z6 : (s.st == 6) = false := beq_eq_false_iff_ne.2 (by omega)
  have zn : (s.st != 0) = true := by simp [bne, z0]
  have I0 := Lib.hid (EngI.start h)
  have c18 := h.e.cell (i := 18) (v := .int .u64 (s.cwnd : Int)) rfl
  rw [← ha] at HA
  rw [← hwi] at HW
  rw [← hq] at HQ
  rw [← had] at HD
  rw [← hc2] at HC
  rw [← hrm] at HR
  rw [← hle] at HL
  clear h ho hac ha hwi hq had hle hrm hc2 hz hs
  generalize s.uses = us at *
  generalize min (max (min c2 rm) le) 72057594037927936 = zz at *
  generalize hoo : (min a ad) = o1 at *
  generalize hvv : (min c2 rm) = v3 at *
  generalize max v3 le = mx at *
  simp only [BS.cells] at HC HR
  simp only [ccells] at HL
  go_enter Tryz.func43, Tryz.ntmps43
  go_wp2_with fail
  refine (HA.out _ _ (by exact (nc2f _ _ _ _ _ (by simp)).1) (by exact (nc2f _ _ _ _ _ (by simp)).2)).mono ?_
  rintro e w1 ⟨rfl, hb⟩
  have I1 := Lib.hid ((I0.out.to (al_be _ _)).to hb)
  clear hb c18 I0 HA
  go_wp2_with fail
  have I2 := Lib.hid I1.out.drew
  have r13 := ei_r (W := W) (B := B) (P := P) (s := s) (i := 13) (v := .int .i64 s.st) rfl
  go_region_held3 (fun w' => Hid (EngI W B P s w'))
    (first | with_reducible exact ei_k (by assumption) hb | with_reducible exact I2)
    (first
      | (go_at_call 90; (with_reducible refine (HU.out _ (Hid.out (by assumption) : EngI W B P s _).at_).mono ?_); rintro e w' ⟨rfl, hb⟩)
      | (go_at_call 89; (with_reducible refine (HW.out _ (Hid.out (by assumption) : EngI W B P s _).at_.gl).mono ?_); rintro e w' ⟨rfl, hb⟩))
  have I3 : Hid (EngI W B P s w') := by assumption
  clear r13 hb I1 I2
  have c13 := I3.out.at_.e.cell (i := 13) (v := .int .i64 s.st) rfl
  have c6 := I3.out.at_.e.cell (i := 6) (v := .pointer (some ⟨P.p, 0, none⟩)) rfl
  have c7 := I3.out.at_.e.cell (i := 7) (v := .int .u64 (s.bs.hi : Int)) rfl
  have c8 := I3.out.at_.e.cell (i := 8) (v := .int .u64 (s.bs.lo : Int)) rfl
  have c9 := I3.out.at_.e.cell (i := 9) (v := .int .u64 (s.bs.bw : Int)) rfl
  go_wp2_with fail
  refine (HQ.out _ I3.out.at_).mono ?_
  rintro e w13 ⟨rfl, hb⟩
  have I4 := Lib.hid (I3.out.to hb)
  clear hb
  go_wp2_with fail
  refine (HD.out _ _ (by exact (nc2f _ _ _ _ _ (by simp)).1) (by exact (nc2f _ _ _ _ _ (by simp)).2)).mono ?_
  rintro e w14 ⟨rfl, hb⟩
  have I5 := Lib.hid ((I4.out.to (al_be _ _)).to hb)
  clear hb
  have c7 := I5.out.at_.e.cell (i := 7) (v := .int .u64 (s.bs.hi : Int)) rfl
  have c8 := I5.out.at_.e.cell (i := 8) (v := .int .u64 (s.bs.lo : Int)) rfl
  have c9 := I5.out.at_.e.cell (i := 9) (v := .int .u64 (s.bs.bw : Int)) rfl
  have c13 := I5.out.at_.e.cell (i := 13) (v := .int .i64 s.st) rfl
  go_wp2_with fail
  refine (HC.out _ _ (by first | exact nc1e _ _ _ _ (by simp) | (rw [hoo]; exact nc1e _ _ _ _ (by simp)))).mono ?_
  rintro e w15 ⟨rfl, hb⟩
  have I6 := Lib.hid ((I5.out.to (al_be _ _)).to hb)
  clear hb
  have c7 := I6.out.at_.e.cell (i := 7) (v := .int .u64 (s.bs.hi : Int)) rfl
  have c8 := I6.out.at_.e.cell (i := 8) (v := .int .u64 (s.bs.lo : Int)) rfl
  have c9 := I6.out.at_.e.cell (i := 9) (v := .int .u64 (s.bs.bw : Int)) rfl
  have c13 := I6.out.at_.e.cell (i := 13) (v := .int .i64 s.st) rfl
  have c0 := I6.out.at_.e.cell (i := 0) (v := .int .u64 (s.c 0 : Int)) rfl
  have c1 := I6.out.at_.e.cell (i := 1) (v := .int .u64 (s.c 1 : Int)) rfl
  have c2 := I6.out.at_.e.cell (i := 2) (v := .int .u64 (s.c 2 : Int)) rfl
  have c3 := I6.out.at_.e.cell (i := 3) (v := .int .u64 (s.c 3 : Int)) rfl
  have c4 := I6.out.at_.e.cell (i := 4) (v := .int .u64 (s.c 4 : Int)) rfl
  have c5 := I6.out.at_.e.cell (i := 5) (v := .int .u64 (s.c 5 : Int)) rfl
  go_wp2_with fail
  refine (HR.out _).mono ?_
  rintro e w16 ⟨rfl, hb⟩
  have I7 := Lib.hid (I6.out.to hb)
  clear hb
  have c0 := I7.out.at_.e.cell (i := 0) (v := .int .u64 (s.c 0 : Int)) rfl
  have c1 := I7.out.at_.e.cell (i := 1) (v := .int .u64 (s.c 1 : Int)) rfl
  have c2 := I7.out.at_.e.cell (i := 2) (v := .int .u64 (s.c 2 : Int)) rfl
  have c3 := I7.out.at_.e.cell (i := 3) (v := .int .u64 (s.c 3 : Int)) rfl
  have c4 := I7.out.at_.e.cell (i := 4) (v := .int .u64 (s.c 4 : Int)) rfl
  have c5 := I7.out.at_.e.cell (i := 5) (v := .int .u64 (s.c 5 : Int)) rfl
  go_wp2_with fail
  refine (HL.out _).mono ?_
  rintro e w17 ⟨rfl, hb⟩
  have I8 := Lib.hid (I7.out.to hb)
  clear hb
  go_wp2_with fail
  all_goals
    go_ret
    refine ⟨ret_u64 ?_, I8.out.bel⟩
    first | rfl | exact hm5 | omega

set_option maxHeartbeats 1000000 in
theorem en_open6 {B k : Nat} {P : EP} {s : ES} (ac : Nat) (hac : ac ≤ 18446744073709551615) (W : World) (h : EngAt W B P s) (ho : s.ok k) (hs : s.st = 6)
    {a wi q ad le rm c2 z : Nat} (ha : a = Pl.addS s.cwnd ac) (hwi : wi = windowG (stG s.st) s.uses) (hq : q = s.quant) (had : ad = Pl.addS wi q) (hle : le = leastC s.c) (hrm : rm = s.bs.room) (hc2 : c2 = s.bs.cap [min a ad]) (hz : z = min (max (min c2 wi) le) 72057594037927936) :
    Calls Tryz.prog 43 #[.pointer (some ⟨P.b, 0, none⟩), .int .u64 (ac : Int)] W fun e w' => e = .returned (.int .u64 (z : Int)) ∧ Below W.heap.size W w' := by
  have HA := Lib.hid (add_any s.cwnd ac ho.cwnd hac)
  have HU := Lib.hid (fun w h => en_uses (B := B) (P := P) (s := s) w h ho)
  have HW := Lib.hid (fun w h => ga_Window s.st s.uses (ES.uses_le s) w h)
  have HF : Hid (∀ w, EngAt w B P s → Calls Tryz.prog 74 #[.pointer (some ⟨P.p, 0, none⟩)] w fun e w' => e = .returned (.bool s.p.full) ∧ Below w.heap.size w w') := Lib.hid (fun w hw => (pi_Full P.p s.p w hw.p).mono fun e w' q => ⟨q.1, q.2 ▸ Below.refl _ _⟩)
  have HQ := Lib.hid (fun w h => en_Quantum (B := B) (P := P) (s := s) w h ho)
  have HD := Lib.hid (add_any wi q (by rw [hwi]; exact windowG_le _ _) (by rw [hq]; exact ES.quant_le s))
  have HC := Lib.hid (fun b w h => cap_any s.bs (min a ad) b w h)
  have HR := Lib.hid (fun w => bd_Room s.bs w ho.bs)
  have HL := Lib.hid (fun w => conf_Least s.c w ho.c)
  have hm1 : min (a : Int) (ad : Int) = ((min a ad : Nat) : Int) := by omega
  have hm2 : min (c2 : Int) (rm : Int) = ((min c2 rm : Nat) : Int) := by omega
  have hm3 : min (c2 : Int) (wi : Int) = ((min c2 wi : Nat) : Int) := by omega
  have hm4 : max (((min c2 wi) : Nat) : Int) (le : Int) = ((max (min c2 wi) le : Nat) : Int) := by omega
  have hm5 : min ((max (min c2 wi) le : Nat) : Int) 72057594037927936 = (z : Int) := by omega
  have z0 : (s.st == 0) = false := beq_eq_false_iff_ne.2 (by omega)
  have z2 : (s.st == 2) = false := beq_eq_false_iff_ne.2 (by omega)
  have z3 : (s.st == 3) = false := beq_eq_false_iff_ne.2 (by omega)
  have z6 : (s.st == 6) = true := beq_iff_eq.2 hs
  have zn : (s.st != 0) = true := by simp [bne, z0]
  have I0 := Lib.hid (EngI.start h)
  have c18 := h.e.cell (i := 18) (v := .int .u64 (s.cwnd : Int)) rfl
  rw [← ha] at HA
  rw [← hwi] at HW
  rw [← hq] at HQ
  rw [← had] at HD
  rw [← hc2] at HC
  rw [← hrm] at HR
  rw [← hle] at HL
  clear h ho hac ha hwi hq had hle hrm hc2 hz hs
  generalize s.uses = us at *
  generalize min (max (min c2 wi) le) 72057594037927936 = zz at *
  generalize hoo : (min a ad) = o1 at *
  generalize hvv : (min c2 wi) = v3 at *
  generalize max v3 le = mx at *
  simp only [BS.cells] at HC HR
  simp only [ccells] at HL
  go_enter Tryz.func43, Tryz.ntmps43
  go_wp2_with fail
  refine (HA.out _ _ (by exact (nc2f _ _ _ _ _ (by simp)).1) (by exact (nc2f _ _ _ _ _ (by simp)).2)).mono ?_
  rintro e w1 ⟨rfl, hb⟩
  have I1 := Lib.hid ((I0.out.to (al_be _ _)).to hb)
  clear hb c18 I0 HA
  go_wp2_with fail
  have I2 := Lib.hid I1.out.drew
  have r13 := ei_r (W := W) (B := B) (P := P) (s := s) (i := 13) (v := .int .i64 s.st) rfl
  go_region_held3 (fun w' => Hid (EngI W B P s w'))
    (first | with_reducible exact ei_k (by assumption) hb | with_reducible exact I2)
    (first
      | (go_at_call 90; (with_reducible refine (HU.out _ (Hid.out (by assumption) : EngI W B P s _).at_).mono ?_); rintro e w' ⟨rfl, hb⟩)
      | (go_at_call 89; (with_reducible refine (HW.out _ (Hid.out (by assumption) : EngI W B P s _).at_.gl).mono ?_); rintro e w' ⟨rfl, hb⟩))
  have I3 : Hid (EngI W B P s w') := by assumption
  clear r13 hb I1 I2
  have c13 := I3.out.at_.e.cell (i := 13) (v := .int .i64 s.st) rfl
  have c6 := I3.out.at_.e.cell (i := 6) (v := .pointer (some ⟨P.p, 0, none⟩)) rfl
  have c7 := I3.out.at_.e.cell (i := 7) (v := .int .u64 (s.bs.hi : Int)) rfl
  have c8 := I3.out.at_.e.cell (i := 8) (v := .int .u64 (s.bs.lo : Int)) rfl
  have c9 := I3.out.at_.e.cell (i := 9) (v := .int .u64 (s.bs.bw : Int)) rfl
  go_wp2_with fail
  refine (HQ.out _ I3.out.at_).mono ?_
  rintro e w13 ⟨rfl, hb⟩
  have I4 := Lib.hid (I3.out.to hb)
  clear hb
  go_wp2_with fail
  refine (HD.out _ _ (by exact (nc2f _ _ _ _ _ (by simp)).1) (by exact (nc2f _ _ _ _ _ (by simp)).2)).mono ?_
  rintro e w14 ⟨rfl, hb⟩
  have I5 := Lib.hid ((I4.out.to (al_be _ _)).to hb)
  clear hb
  have c7 := I5.out.at_.e.cell (i := 7) (v := .int .u64 (s.bs.hi : Int)) rfl
  have c8 := I5.out.at_.e.cell (i := 8) (v := .int .u64 (s.bs.lo : Int)) rfl
  have c9 := I5.out.at_.e.cell (i := 9) (v := .int .u64 (s.bs.bw : Int)) rfl
  have c13 := I5.out.at_.e.cell (i := 13) (v := .int .i64 s.st) rfl
  go_wp2_with fail
  refine (HC.out _ _ (by first | exact nc1e _ _ _ _ (by simp) | (rw [hoo]; exact nc1e _ _ _ _ (by simp)))).mono ?_
  rintro e w15 ⟨rfl, hb⟩
  have I6 := Lib.hid ((I5.out.to (al_be _ _)).to hb)
  clear hb
  have c7 := I6.out.at_.e.cell (i := 7) (v := .int .u64 (s.bs.hi : Int)) rfl
  have c8 := I6.out.at_.e.cell (i := 8) (v := .int .u64 (s.bs.lo : Int)) rfl
  have c9 := I6.out.at_.e.cell (i := 9) (v := .int .u64 (s.bs.bw : Int)) rfl
  have c13 := I6.out.at_.e.cell (i := 13) (v := .int .i64 s.st) rfl
  have c0 := I6.out.at_.e.cell (i := 0) (v := .int .u64 (s.c 0 : Int)) rfl
  have c1 := I6.out.at_.e.cell (i := 1) (v := .int .u64 (s.c 1 : Int)) rfl
  have c2 := I6.out.at_.e.cell (i := 2) (v := .int .u64 (s.c 2 : Int)) rfl
  have c3 := I6.out.at_.e.cell (i := 3) (v := .int .u64 (s.c 3 : Int)) rfl
  have c4 := I6.out.at_.e.cell (i := 4) (v := .int .u64 (s.c 4 : Int)) rfl
  have c5 := I6.out.at_.e.cell (i := 5) (v := .int .u64 (s.c 5 : Int)) rfl
  go_wp2_with fail
  refine (HL.out _).mono ?_
  rintro e w16 ⟨rfl, hb⟩
  have I7 := Lib.hid (I6.out.to hb)
  clear hb
  go_wp2_with fail
  all_goals
    go_ret
    refine ⟨ret_u64 ?_, I7.out.bel⟩
    first | rfl | exact hm5 | omega

set_option maxHeartbeats 1000000 in
theorem en_openn {B k : Nat} {P : EP} {s : ES} (ac : Nat) (hac : ac ≤ 18446744073709551615) (W : World) (h : EngAt W B P s) (ho : s.ok k) (h0 : s.st ≠ 0) (h2 : s.st ≠ 2) (h3 : s.st ≠ 3) (h6 : s.st ≠ 6)
    {a wi q ad le rm c2 z : Nat} (ha : a = Pl.addS s.cwnd ac) (hwi : wi = windowG (stG s.st) s.uses) (hq : q = s.quant) (had : ad = Pl.addS wi q) (hle : le = leastC s.c) (hrm : rm = s.bs.room) (hc2 : c2 = s.bs.cap [min a ad]) (hz : z = min (max (c2) le) 72057594037927936) :
    Calls Tryz.prog 43 #[.pointer (some ⟨P.b, 0, none⟩), .int .u64 (ac : Int)] W fun e w' => e = .returned (.int .u64 (z : Int)) ∧ Below W.heap.size W w' := by
  have HA := Lib.hid (add_any s.cwnd ac ho.cwnd hac)
  have HU := Lib.hid (fun w h => en_uses (B := B) (P := P) (s := s) w h ho)
  have HW := Lib.hid (fun w h => ga_Window s.st s.uses (ES.uses_le s) w h)
  have HF : Hid (∀ w, EngAt w B P s → Calls Tryz.prog 74 #[.pointer (some ⟨P.p, 0, none⟩)] w fun e w' => e = .returned (.bool s.p.full) ∧ Below w.heap.size w w') := Lib.hid (fun w hw => (pi_Full P.p s.p w hw.p).mono fun e w' q => ⟨q.1, q.2 ▸ Below.refl _ _⟩)
  have HQ := Lib.hid (fun w h => en_Quantum (B := B) (P := P) (s := s) w h ho)
  have HD := Lib.hid (add_any wi q (by rw [hwi]; exact windowG_le _ _) (by rw [hq]; exact ES.quant_le s))
  have HC := Lib.hid (fun b w h => cap_any s.bs (min a ad) b w h)
  have HR := Lib.hid (fun w => bd_Room s.bs w ho.bs)
  have HL := Lib.hid (fun w => conf_Least s.c w ho.c)
  have hm1 : min (a : Int) (ad : Int) = ((min a ad : Nat) : Int) := by omega
  have hm2 : min (c2 : Int) (rm : Int) = ((min c2 rm : Nat) : Int) := by omega
  have hm3 : min (c2 : Int) (wi : Int) = ((min c2 wi : Nat) : Int) := by omega
  have hm4 : max (((c2) : Nat) : Int) (le : Int) = ((max (c2) le : Nat) : Int) := by omega
  have hm5 : min ((max (c2) le : Nat) : Int) 72057594037927936 = (z : Int) := by omega
  have z0 : (s.st == 0) = false := beq_eq_false_iff_ne.2 (h0)
  have z2 : (s.st == 2) = false := beq_eq_false_iff_ne.2 (h2)
  have z3 : (s.st == 3) = false := beq_eq_false_iff_ne.2 (h3)
  have z6 : (s.st == 6) = false := beq_eq_false_iff_ne.2 (h6)
  have zn : (s.st != 0) = true := by simp [bne, z0]
  have I0 := Lib.hid (EngI.start h)
  have c18 := h.e.cell (i := 18) (v := .int .u64 (s.cwnd : Int)) rfl
  rw [← ha] at HA
  rw [← hwi] at HW
  rw [← hq] at HQ
  rw [← had] at HD
  rw [← hc2] at HC
  rw [← hrm] at HR
  rw [← hle] at HL
  clear h ho hac ha hwi hq had hle hrm hc2 hz h0 h2 h3 h6
  generalize s.uses = us at *
  generalize min (max (c2) le) 72057594037927936 = zz at *
  generalize hoo : (min a ad) = o1 at *
  generalize hvv : (c2) = v3 at *
  generalize max v3 le = mx at *
  simp only [BS.cells] at HC HR
  simp only [ccells] at HL
  go_enter Tryz.func43, Tryz.ntmps43
  go_wp2_with fail
  refine (HA.out _ _ (by exact (nc2f _ _ _ _ _ (by simp)).1) (by exact (nc2f _ _ _ _ _ (by simp)).2)).mono ?_
  rintro e w1 ⟨rfl, hb⟩
  have I1 := Lib.hid ((I0.out.to (al_be _ _)).to hb)
  clear hb c18 I0 HA
  go_wp2_with fail
  have I2 := Lib.hid I1.out.drew
  have r13 := ei_r (W := W) (B := B) (P := P) (s := s) (i := 13) (v := .int .i64 s.st) rfl
  go_region_held3 (fun w' => Hid (EngI W B P s w'))
    (first | with_reducible exact ei_k (by assumption) hb | with_reducible exact I2)
    (first
      | (go_at_call 90; (with_reducible refine (HU.out _ (Hid.out (by assumption) : EngI W B P s _).at_).mono ?_); rintro e w' ⟨rfl, hb⟩)
      | (go_at_call 89; (with_reducible refine (HW.out _ (Hid.out (by assumption) : EngI W B P s _).at_.gl).mono ?_); rintro e w' ⟨rfl, hb⟩))
  have I3 : Hid (EngI W B P s w') := by assumption
  clear r13 hb I1 I2
  have c13 := I3.out.at_.e.cell (i := 13) (v := .int .i64 s.st) rfl
  have c6 := I3.out.at_.e.cell (i := 6) (v := .pointer (some ⟨P.p, 0, none⟩)) rfl
  have c7 := I3.out.at_.e.cell (i := 7) (v := .int .u64 (s.bs.hi : Int)) rfl
  have c8 := I3.out.at_.e.cell (i := 8) (v := .int .u64 (s.bs.lo : Int)) rfl
  have c9 := I3.out.at_.e.cell (i := 9) (v := .int .u64 (s.bs.bw : Int)) rfl
  go_wp2_with fail
  refine (HQ.out _ I3.out.at_).mono ?_
  rintro e w13 ⟨rfl, hb⟩
  have I4 := Lib.hid (I3.out.to hb)
  clear hb
  go_wp2_with fail
  refine (HD.out _ _ (by exact (nc2f _ _ _ _ _ (by simp)).1) (by exact (nc2f _ _ _ _ _ (by simp)).2)).mono ?_
  rintro e w14 ⟨rfl, hb⟩
  have I5 := Lib.hid ((I4.out.to (al_be _ _)).to hb)
  clear hb
  have c7 := I5.out.at_.e.cell (i := 7) (v := .int .u64 (s.bs.hi : Int)) rfl
  have c8 := I5.out.at_.e.cell (i := 8) (v := .int .u64 (s.bs.lo : Int)) rfl
  have c9 := I5.out.at_.e.cell (i := 9) (v := .int .u64 (s.bs.bw : Int)) rfl
  have c13 := I5.out.at_.e.cell (i := 13) (v := .int .i64 s.st) rfl
  go_wp2_with fail
  refine (HC.out _ _ (by first | exact nc1e _ _ _ _ (by simp) | (rw [hoo]; exact nc1e _ _ _ _ (by simp)))).mono ?_
  rintro e w15 ⟨rfl, hb⟩
  have I6 := Lib.hid ((I5.out.to (al_be _ _)).to hb)
  clear hb
  have c7 := I6.out.at_.e.cell (i := 7) (v := .int .u64 (s.bs.hi : Int)) rfl
  have c8 := I6.out.at_.e.cell (i := 8) (v := .int .u64 (s.bs.lo : Int)) rfl
  have c9 := I6.out.at_.e.cell (i := 9) (v := .int .u64 (s.bs.bw : Int)) rfl
  have c13 := I6.out.at_.e.cell (i := 13) (v := .int .i64 s.st) rfl
  have c0 := I6.out.at_.e.cell (i := 0) (v := .int .u64 (s.c 0 : Int)) rfl
  have c1 := I6.out.at_.e.cell (i := 1) (v := .int .u64 (s.c 1 : Int)) rfl
  have c2 := I6.out.at_.e.cell (i := 2) (v := .int .u64 (s.c 2 : Int)) rfl
  have c3 := I6.out.at_.e.cell (i := 3) (v := .int .u64 (s.c 3 : Int)) rfl
  have c4 := I6.out.at_.e.cell (i := 4) (v := .int .u64 (s.c 4 : Int)) rfl
  have c5 := I6.out.at_.e.cell (i := 5) (v := .int .u64 (s.c 5 : Int)) rfl
  go_wp2_with fail
  refine (HL.out _).mono ?_
  rintro e w16 ⟨rfl, hb⟩
  have I7 := Lib.hid (I6.out.to hb)
  clear hb
  go_wp2_with fail
  all_goals
    go_ret
    refine ⟨ret_u64 ?_, I7.out.bel⟩
    first | rfl | exact hm5 | omega

theorem en_open {B k : Nat} {P : EP} {s : ES} (ac : Nat) (hac : ac ≤ 18446744073709551615) (W : World) (h : EngAt W B P s) (ho : s.ok k) :
    Calls Tryz.prog 43 #[.pointer (some ⟨P.b, 0, none⟩), .int .u64 (ac : Int)] W fun e w' => e = .returned (.int .u64 ((s.open ac : Nat) : Int)) ∧ Below W.heap.size W w' := by
  by_cases h0 : s.st = 0
  · cases hf : s.p.full with
    | false => exact en_open0 ac hac W h ho h0 hf rfl rfl rfl rfl rfl rfl rfl (by simp [ES.open, ES.o3, ES.o2, ES.o1, h0, hf])
    | true => exact en_open0f ac hac W h ho h0 hf rfl rfl rfl rfl rfl rfl rfl (by simp [ES.open, ES.o3, ES.o2, ES.o1, h0, hf])
  · by_cases h2 : s.st = 2
    · exact en_open2 ac hac W h ho h2 rfl rfl rfl rfl rfl rfl rfl (by simp [ES.open, ES.o3, ES.o2, ES.o1, h2])
    · by_cases h3 : s.st = 3
      · exact en_open3 ac hac W h ho h3 rfl rfl rfl rfl rfl rfl rfl (by simp [ES.open, ES.o3, ES.o2, ES.o1, h3])
      · by_cases h6 : s.st = 6
        · exact en_open6 ac hac W h ho h6 rfl rfl rfl rfl rfl rfl rfl (by simp [ES.open, ES.o3, ES.o2, ES.o1, h6])
        · exact en_openn ac hac W h ho h0 h2 h3 h6 rfl rfl rfl rfl rfl rfl rfl (by simp [ES.open, ES.o3, ES.o2, ES.o1, h0, h2, h3, h6])
end Go.Proofs.YtpkbjfhicocogaaGreatDoor
