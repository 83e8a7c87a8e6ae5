/- narrow over this translation: gone packets that are taken from a ledger's row. -/
import Derived.Test.YtfpopbhbhdhdnaaLx
set_option linter.unusedVariables false
namespace Go.Proofs.Ytfpopbhbhdhdnaa
open Go.RowKit

def LS.with_ (s : LS) (l : List Kp) : LS := { s with ks := l }
theorem LS.sub_ok {s : LS} (h : s.ok) {l : List Kp} (hl : l.Sublist s.ks) : (s.with_ l).ok :=
  ⟨h.nodup.sublist (hl.map Kp.b), h.rise.sublist hl, fun k hk => h.lt k (hl.mem hk), fun k hk => h.pk k (hl.mem hk), fun hm => (h.mono hm).sublist hl, h.next, h.reorder, h.top, h.un⟩
theorem LS.with_self (s : LS) : s.with_ s.ks = s := rfl
theorem lcells_with {s : LS} {l : List Kp} (h : outK l = outK s.ks) (rb rb' : Nat) : lcells rb' (s.with_ l) = (lcells rb s).setIfInBounds 0 (.pointer (some ⟨rb', 0, none⟩)) := by
  unfold lcells LS.with_ tot outP
  simp [h]
theorem lcells_same {s : LS} {l : List Kp} (h : outK l = outK s.ks) (rb : Nat) : lcells rb (s.with_ l) = lcells rb s := by
  unfold lcells LS.with_ tot outP
  simp [h]
def headP : List Kp → Value
  | [] => .pointer none
  | k :: _ => .pointer (some ⟨k.b, 0, none⟩)
def headB : List Kp → Bool
  | [] => false
  | _ :: _ => true
theorem krow_cnt {w : World} {b g : Nat} {l : List Nat} (h : KRow w b g l) : w.cell? ⟨b, 2, none⟩ = some (.int .i64 (l.length : Int)) := by
  obtain ⟨q, h1, rfl, h3⟩ := h
  rw [RS.len_items]
  exact h3.head.cell (i := 2) rfl
def rowN (w : World) (rb : Nat) : Nat := (intOf ((w.cell? ⟨rb, 2, none⟩).getD undef)).toNat
theorem rowN_eq {w : World} {b g : Nat} {l : List Nat} (h : KRow w b g l) : rowN w b = l.length := by
  unfold rowN; rw [krow_cnt h]; simp [intOf]

/-- The row's first item, if there is one. -/
def NarV (ks : List Kp) (p : Value) (q : Bool) : Prop := p = headP ks ∧ q = headB ks
theorem led_first (b rb g : Nat) (ks : List Kp) (w : World) (h : LRd w b rb g ks) (p : Value) (q : Bool) (hp : NarV ks p q) :
    Calls Try.prog 20 #[.pointer (some ⟨rb, 0, none⟩), .int .i64 0] w fun e w' => e = .returned (.tuple #[p, .bool q]) ∧ Drawn w w' := by
  obtain ⟨rfl, rfl⟩ := hp
  cases ks with
  | nil => exact k_at_out rb g 0 (itemsK []) w h.row (.inr (by simp [itemsK]))
  | cons k t => exact led_at b rb g 0 (k :: t) w h (by simp)

/-- What the loop of narrow keeps, and what narrow leaves of the row. -/
structure NarI (w : World) (b rb g : Nat) (s : LS) (ks : List Kp) (wr : World) : Prop where
  led : ∃ g', LAt wr b rb g' (s.with_ ks) ∧ (g' = g ∨ w.heap.size ≤ g')
  suf : ks <:+ s.ks
  out : outK ks = outK s.ks
  fr : Fr w wr (blocksL b rb g s)
theorem NarI.drawn {w wr w2 : World} {b rb g : Nat} {s : LS} {ks : List Kp} (h : NarI w b rb g s ks wr) (k : Drawn wr w2) : NarI w b rb g s ks w2 := by
  obtain ⟨⟨g', h1, h2⟩, h3, h4, h5⟩ := h
  exact ⟨⟨g', h1.drawn k, h2⟩, h3, h4, h5.drawn k⟩
theorem nar_shift {w wr w2 : World} {b rb g g' : Nat} {s : LS} {k : Kp} {t : List Kp} (hl : LAt wr b rb g' (s.with_ (k :: t))) (hg : g' = g ∨ w.heap.size ≤ g') (hs : (k :: t) <:+ s.ks) (ho : outK (k :: t) = outK s.ks) (hgn : k.gone = true) (hf : Fr w wr (blocksL b rb g s))
    (hp : KRPost wr rb g' (kgot (k.b + 1) true) (itemsK t) (kgot (k.b + 1) true) w2) : NarI w b rb g s t w2 := by
  obtain ⟨_, ⟨g2, h1, h2⟩, h3⟩ := hp
  have e1 : outK t = outK s.ks := by rw [← ho, outK_cons, hgn]; rfl
  have hsub : ∀ y ∈ t, y ∈ s.ks := fun y hy => hs.mem (List.mem_cons_of_mem _ hy)
  obtain ⟨c2, hc2⟩ := hl.row.body
  obtain ⟨c1, hc1⟩ := hl.row.head
  have hg2 : ∀ {y T cs}, Blk wr y T cs → T ≠ 86 → T ≠ 59 → y ∉ [rb, g'] := fun {y T cs} hy k1 k2 hm => by
    simp at hm
    rcases hm with rfl | rfl
    · exact hy.ty hc1 k1 rfl
    · exact hy.ty hc2 k2 rfl
  refine ⟨⟨g2, ⟨?_, h1, fun y hy => ?_⟩, ?_⟩, (List.suffix_cons k t).trans hs, e1, ?_⟩
  · have := hl.head.fr h3 (hg2 hl.head (by decide) (by decide))
    rw [lcells_same ho] at this
    rw [lcells_same e1]
    exact this
  · have hk := hl.kept y (List.mem_cons_of_mem _ hy)
    exact hk.fr h3 (hg2 hk (by decide) (by decide))
  · rcases h2 with rfl | h2
    · exact hg
    · right; have := hf.size; omega
  · refine hf.trans h3 (fun x hx => ?_)
    simp at hx
    rcases hx with rfl | rfl
    · left; simp [blocksL]
    · rcases hg with rfl | hg
      · left; simp [blocksL]
      · exact .inr hg

structure NarPost (w : World) (b rb g : Nat) (s : LS) (e : Ending) (w' : World) : Prop where
  e : e = .returned (.tuple #[])
  led : ∃ rb' g' ks, LAt w' b rb' g' (s.with_ ks) ∧ ks.Sublist s.ks ∧ outK ks = outK s.ks ∧ ∀ x ∈ blocksL b rb' g' (s.with_ ks), x ∈ blocksL b rb g s ∨ w.heap.size ≤ x
  fr : Fr w w' (blocksL b rb g s)
theorem nar_done {w w' : World} {b rb g : Nat} {s : LS} {ks : List Kp} (h : NarI w b rb g s ks w') : NarPost w b rb g s (.returned (.tuple #[])) w' := by
  obtain ⟨⟨g', h1, h2⟩, h3, h4, h5⟩ := h
  refine ⟨rfl, ⟨rb, g', ks, h1, h3.sublist, h4, fun x hx => ?_⟩, h5⟩
  simp only [blocksL, List.mem_cons, List.mem_map] at hx ⊢
  rcases hx with rfl | rfl | rfl | ⟨k, hk, rfl⟩
  · simp
  · simp
  · rcases h2 with rfl | h2
    · simp
    · exact .inr h2
  · exact .inl (.inr (.inr (.inr ⟨k, h3.mem hk, rfl⟩)))
theorem yK_all {ks : List Kp} (h : ∀ k ∈ ks, k.p.ok) : yK ks 0 18446744073709551615 = outK ks := by
  unfold yK outK
  apply List.filter_congr
  intro k hk
  have := (h k hk).n
  have : decide (k.p.n ≤ 18446744073709551615) = true := by simp; omega
  simp [inK, this]
theorem outK_outK (ks : List Kp) : outK (outK ks) = outK ks := by unfold outK; rw [List.filter_filter]; simp
theorem nar_new {w wr w1 w2 w3 : World} {b rb g rb' g' : Nat} {s : LS} {ks : List Kp} (hp : ∀ k ∈ s.ks, k.p.ok) (h : NarI w b rb g s ks wr) (k1 : Below wr.heap.size wr w3) (hr : KRow w3 rb' g' (itemsK (outK ks))) (h1 : wr.heap.size ≤ rb') (h2 : wr.heap.size ≤ g') :
    NarPost w b rb g s (.returned (.tuple #[])) (w3.setCell ⟨b, 0, none⟩ (.pointer (some ⟨rb', 0, none⟩))) := by
  obtain ⟨⟨g0, h3, h4⟩, h5, h6, h7⟩ := h
  have hsz := h7.size
  have hbw := h3.head.keep k1
  have hb := hbw.set 0 (.pointer (some ⟨rb', 0, none⟩))
  have e1 : outK (outK ks) = outK s.ks := by rw [outK_outK, h6]
  rw [lcells_same h6, ← lcells_with e1] at hb
  obtain ⟨c1, hc1⟩ := hr.head
  obtain ⟨c2, hc2⟩ := hr.body
  refine ⟨rfl, ⟨rb', g', outK ks, ⟨hb, hr.set_other (hc1.ty hbw (by decide)) (hc2.ty hbw (by decide)), fun y hy => ?_⟩, (outK_sub ks).trans h5.sublist, e1, fun x hx => ?_⟩, (h7.below k1).set (.inl (by simp [blocksL])) 0 _⟩
  · have hk := (h3.kept y ((outK_sub ks).mem hy)).keep k1
    exact hk.set_other 0 _ (hk.ty hbw (by decide))
  · simp only [blocksL, List.mem_cons, List.mem_map] at hx ⊢
    rcases hx with rfl | rfl | rfl | ⟨k, hk, rfl⟩
    · simp
    · right; omega
    · right; omega
    · exact .inl (.inr (.inr (.inr ⟨k, h5.mem ((outK_sub ks).mem hk), rfl⟩)))
end Go.Proofs.Ytfpopbhbhdhdnaa
