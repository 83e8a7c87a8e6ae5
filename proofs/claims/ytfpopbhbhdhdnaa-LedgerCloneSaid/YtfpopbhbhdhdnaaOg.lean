/- What Ack's loop keeps, over this translation. -/
import Derived.Test.YtfpopbhbhdhdnaaOf
import Derived.Test.YtfpopbhbhdhdnaaUd
set_option linter.unusedVariables false
namespace Go.Proofs.Ytfpopbhbhdhdnaa
open Go.RowKit Go.Shelf

theorem filter_two {l : List Kp} (hr : l.Pairwise fun x y => x.p.n < y.p.n) (f g : Kp → Bool) (h : ∀ x y, f x = true → g y = true → x.p.n < y.p.n) : l.filter (fun k => f k || g k) = l.filter f ++ l.filter g := by
  induction l with
  | nil => rfl
  | cons x t ih =>
    have hp := List.pairwise_cons.1 hr
    rw [List.filter_cons, List.filter_cons, List.filter_cons, ih hp.2]
    cases hf : f x
    · cases hg : g x
      · simp
      · have e : t.filter f = [] := by
          rw [List.filter_eq_nil_iff]
          intro y hy hfy
          have h1 := h y x hfy hg
          have h2 := hp.1 y hy
          omega
        simp [e]
    · cases hg : g x
      · simp
      · have := h x x hf hg
        omega

/-- Whether ranges have a packet's number. -/
def inQp (Q : List Rn) (p : Pk) : Bool := Q.any fun r => decide (r.a ≤ p.n) && decide (p.n ≤ r.b)
def AK (s : LS) (Q : List Rn) : List Kp := (outK s.ks).filter fun k => inQp Q k.p
/-- A ledger, less some that were acknowledged. -/
def LS.ack (s : LS) (A : List Kp) : LS := { s.take (A.map Kp.b) with top := A.foldl (fun t k => max t k.p.n) s.top, topped := s.topped || !A.isEmpty }
theorem LS.ack_nil (s : LS) : s.ack [] = s := by
  have : s.take [] = s := LS.take_nil s
  unfold LS.ack
  simp [this]
theorem LS.ack_ks (s : LS) (A : List Kp) : (s.ack A).ks = markK (A.map Kp.b) s.ks := rfl
theorem LS.ack_snoc (s : LS) (A : List Kp) (x : Kp) : ({ (s.ack A).take [x.b] with top := max (s.ack A).top x.p.n, topped := true } : LS) = s.ack (A ++ [x]) := by
  unfold LS.ack LS.take
  simp [List.map_append, markK_append, List.foldl_append]
theorem fold_le {A : List Kp} : ∀ {t m : Nat}, t ≤ m → (∀ k ∈ A, k.p.n ≤ m) → A.foldl (fun t k => max t k.p.n) t ≤ m := by
  induction A with
  | nil => intro t m h _; exact h
  | cons x r ih =>
    intro t m h hA
    exact ih (Nat.max_le.2 ⟨h, hA x List.mem_cons_self⟩) fun k hk => hA k (List.mem_cons_of_mem _ hk)
theorem LS.ack_ok {s : LS} (h : s.ok) {A : List Kp} (hA : ∀ k ∈ A, k ∈ s.ks) : (s.ack A).ok := by
  have k := LS.take_ok h (A.map Kp.b)
  refine ⟨k.nodup, k.rise, k.lt, k.pk, k.mono, k.next, k.reorder, fold_le h.top fun x hx => (h.pk x (hA x hx)).n, fun ht => ?_⟩
  have h1 : (s.topped || !A.isEmpty) = false := ht
  rw [Bool.or_eq_false_iff] at h1
  cases A with
  | nil => exact h.un h1.1
  | cons x r => simp at h1
theorem AK_sub (s : LS) (Q : List Rn) : ∀ k ∈ AK s Q, k ∈ s.ks := fun k hk => (outK_sub s.ks).mem (List.mem_filter.1 hk).1

theorem kp_inj {l : List Kp} (hn : (l.map Kp.b).Nodup) {x y : Kp} (hx : x ∈ l) (hy : y ∈ l) (e : x.b = y.b) : x = y := by
  obtain ⟨i, hi, rfl⟩ := List.mem_iff_getElem.1 hx
  obtain ⟨j, hj, rfl⟩ := List.mem_iff_getElem.1 hy
  have key : ∀ {p q : Nat} (hp : p < l.length) (hq : q < l.length), p < q → l[p].b ≠ l[q].b := fun {p q} hp hq hpq => by
    have := List.pairwise_iff_getElem.1 hn p q (by rw [List.length_map]; exact hp) (by rw [List.length_map]; exact hq) hpq
    rwa [List.getElem_map, List.getElem_map] at this
  rcases Nat.lt_trichotomy i j with d | d | d
  · exact absurd e (key hi hj d)
  · subst d; rfl
  · exact absurd e.symm (key hj hi d)

theorem AK_step {s : LS} (hs : s.ok) {Q : List Rn} (hQ : Canon Q) {k : Nat} (hk : k < Q.length) :
    AK s (Q.take (k + 1)) = AK s (Q.take k) ++ yK (s.ack (AK s (Q.take k))).ks (Q.getD k Itm.z).a (Q.getD k Itm.z).b := by
  have er : Q.getD k Itm.z = Q[k] := by rw [List.getD_eq_getElem?_getD, List.getElem?_eq_getElem hk]; rfl
  have hap : ∀ r ∈ Q.take k, r.b + 1 < (Q.getD k Itm.z).a := by
    intro r hr
    rw [er]
    obtain ⟨i, hi, rfl⟩ := List.mem_iff_getElem.1 hr
    rw [List.length_take] at hi
    rw [List.getElem_take]
    exact List.pairwise_iff_getElem.1 hQ.apart i k (by omega) hk (by omega)
  have e2 : Q.take (k + 1) = Q.take k ++ [Q.getD k Itm.z] := by rw [List.take_succ_eq_append_getElem hk, er]
  generalize hr0 : Q.getD k Itm.z = r at *
  have hy : yK (s.ack (AK s (Q.take k))).ks r.a r.b = (outK s.ks).filter (fun x => decide (r.a ≤ x.p.n) && decide (x.p.n ≤ r.b)) := by
    have e3 : yK (s.ack (AK s (Q.take k))).ks r.a r.b = (outK (s.ack (AK s (Q.take k))).ks).filter (fun x => decide (r.a ≤ x.p.n) && decide (x.p.n ≤ r.b)) := by
      unfold yK outK
      rw [List.filter_filter]
      rfl
    rw [e3, LS.ack_ks, outK_mark, List.filter_filter]
    apply List.filter_congr
    intro x hx
    by_cases c : (decide (r.a ≤ x.p.n) && decide (x.p.n ≤ r.b)) = true
    · rw [c, Bool.true_and, decide_eq_true_eq]
      intro hm
      obtain ⟨y, hy, e⟩ := List.mem_map.1 hm
      obtain ⟨hy1, hy2⟩ := List.mem_filter.1 hy
      obtain rfl := kp_inj (outK_nodup hs) hy1 hx e
      unfold inQp at hy2
      obtain ⟨r', hr', h'⟩ := List.any_eq_true.1 hy2
      have := hap r' hr'
      simp at c h'
      omega
    · have c' : (decide (r.a ≤ x.p.n) && decide (x.p.n ≤ r.b)) = false := by simpa using c
      rw [c', Bool.false_and]
  rw [hy, e2]
  have e4 : AK s (Q.take k ++ [r]) = (outK s.ks).filter (fun x => inQp (Q.take k) x.p || (decide (r.a ≤ x.p.n) && decide (x.p.n ≤ r.b))) := by
    unfold AK
    apply List.filter_congr
    intro x _
    unfold inQp
    rw [List.any_append]
    simp
  rw [e4, filter_two (hs.rise.sublist (outK_sub s.ks))]
  · rfl
  · intro x y hx hy
    unfold inQp at hx
    obtain ⟨r', hr', h'⟩ := List.any_eq_true.1 hx
    have := hap r' hr'
    simp at h' hy
    omega

theorem take_rdr2 {W : World} {b rb g bl br fr to : Nat} {s' : LS} {ks : List Kp} {T : List Nat} {pre : List Kp} (h : LAt W b rb g s') (e0 : s'.ks = markK T ks) (hT : ∀ t ∈ T, t ∈ pre.map Kp.b) (hl : Blk W bl 26 #[.pointer (some ⟨b, 0, none⟩)]) (hr : Blk W br 56 #[.int .u64 (fr : Int), .int .u64 (to : Int)]) : RdR ks b rb g bl br fr to pre W := by
  have e : itemsK s'.ks = itemsK ks := by
    rw [e0]
    have := congrArg (List.map (· + 1)) (markK_b T ks)
    rw [List.map_map, List.map_map] at this
    exact this
  refine ⟨hl, hr, ⟨⟨_, h.head, rfl⟩, by rw [← e]; exact h.row, fun k hk => ?_⟩, fun k hk hp => ?_⟩
  · have hk' := h.kept _ (by rw [e0]; exact markK_of (B := T) hk)
    exact ⟨_, hk'⟩
  have := h.kept _ (by rw [e0]; exact markK_of (B := T) hk)
  have hn : k.b ∉ T := fun hm => hp (hT _ hm)
  simp only [hn, decide_false, Bool.or_false] at this
  exact this

/-- The top is another. -/
def topW (W : World) (b t : Nat) : World := (W.setCell ⟨b, 7, none⟩ (.int .u64 (t : Int))).setCell ⟨b, 8, none⟩ (.bool true)
theorem topW_other {W : World} {b t k : Nat} (h : k ≠ b) : (topW W b t).heap[k]? = W.heap[k]? := by
  unfold topW
  rw [Below.heap_setCell _ _ _ _ h, Below.heap_setCell _ _ _ _ h]
theorem LAt.topW {W : World} {b rb g : Nat} {s : LS} (h : LAt W b rb g s) (t : Nat) : LAt (topW W b t) b rb g { s with top := t, topped := true } := by
  obtain ⟨c1, hr1⟩ := h.row.head
  obtain ⟨c2, hr2⟩ := h.row.body
  refine ⟨(h.head.set 7 _).set 8 _, h.row.blk2 fun x T cs hx hb => topW_other ?_, fun k hk => ?_⟩
  · rcases hx with rfl | rfl
    · exact hr1.ty h.head (by decide)
    · exact hr2.ty h.head (by decide)
  · have := h.kept k hk
    unfold Blk
    rw [topW_other (this.ty h.head (by decide))]
    exact this
theorem TkS.topW {w : World} {b rb g n4 : Nat} {B0 : List Nat} {s : LS} {l : List Pk} {Bx : World → Prop} {W : World} (h : TkS w b rb g n4 B0 s l Bx W) (hB : BoxK Bx) (hb : b ∈ B0) (t : Nat) :
    TkS w b rb g n4 B0 { s with top := t, topped := true } l Bx (topW W b t) ∧ ∀ B, KeepsFrom B W (topW W b t) := by
  obtain ⟨v, h1, h2, h3⟩ := h.out
  have hd := h.led.head
  refine ⟨⟨h.led.topW t, hB W _ h.box fun x T cs hx hT => topW_other (hx.ty hd hT.1), ⟨v, ?_, h2.same fun k cs _ hk => topW_other (hk.ty hd (by decide)), h3⟩, (h.fr.set (c := b) (.inl hb) 7 _).set (c := b) (.inl hb) 8 _⟩, fun B => kf_of_fr (L := [b]) (((Fr.refl W [b]).set (c := b) (.inl (by simp)) 7 _).set (c := b) (.inl (by simp)) 8 _) (fun y hy => by simp at hy; subst hy; exact .inr ⟨_, _, hd⟩)⟩
  unfold Blk
  rw [topW_other (h1.ty hd (by decide))]
  exact h1

/-- The boxes of Ack: where the ledger, what takes, and the ranges, lie. -/
structure ABox (b n0 n5 n6 n8 n9 : Nat) (v : Value) (Q : List Rn) (W : World) : Prop where
  q0 : Blk W n0 26 #[.pointer (some ⟨b, 0, none⟩)]
  q5 : Blk W n5 26 #[.pointer (some ⟨b, 0, none⟩)]
  q6 : Blk W n6 74 #[.pointer (some ⟨n8, 0, none⟩)]
  q9 : Blk W n9 67 #[.func (.func 50) #[] #[.pointer (some ⟨n5, 0, none⟩), .pointer (some ⟨n6, 0, none⟩)]]
  rr : RR W v Q
theorem ABox.k (b n0 n5 n6 n8 n9 : Nat) (v : Value) (Q : List Rn) : BoxK (ABox b n0 n5 n6 n8 n9 v Q) := fun W W' h k => by
  have mv : ∀ {x T cs}, Blk W x T cs → boxT T → Blk W' x T cs := fun {x T cs} hb hT => by unfold Blk; rw [k x T cs hb hT]; exact hb
  exact ⟨mv h.q0 (by unfold boxT; decide), mv h.q5 (by unfold boxT; decide), mv h.q6 (by unfold boxT; decide), mv h.q9 (by unfold boxT; decide), h.rr.same fun g cs _ hb => k g _ cs hb (by unfold boxT; decide)⟩
structure RBox (b n0 n5 n6 n8 n9 : Nat) (v : Value) (Q : List Rn) (bl br fr to : Nat) (W : World) : Prop where
  bx : ABox b n0 n5 n6 n8 n9 v Q W
  ql : Blk W bl 26 #[.pointer (some ⟨b, 0, none⟩)]
  qr : Blk W br 56 #[.int .u64 (fr : Int), .int .u64 (to : Int)]
theorem RBox.k (b n0 n5 n6 n8 n9 : Nat) (v : Value) (Q : List Rn) (bl br fr to : Nat) : BoxK (RBox b n0 n5 n6 n8 n9 v Q bl br fr to) := fun W W' h k => by
  have mv : ∀ {x T cs}, Blk W x T cs → boxT T → Blk W' x T cs := fun {x T cs} hb hT => by unfold Blk; rw [k x T cs hb hT]; exact hb
  exact ⟨ABox.k _ _ _ _ _ _ _ _ W W' h.bx k, mv h.ql (by unfold boxT; decide), mv h.qr (by unfold boxT; decide)⟩
theorem TkS.unbox {w : World} {b rb g n4 : Nat} {B0 : List Nat} {s : LS} {l : List Pk} {Bx By : World → Prop} {W : World} (h : TkS w b rb g n4 B0 s l Bx W) (k : By W) : TkS w b rb g n4 B0 s l By W := ⟨h.led, k, h.out, h.fr⟩

/-- The marks of rounds that went by. -/
structure Marks (B : Nat) (DS : List Nat) (W : World) : Prop where
  nodup : DS.Nodup
  at_ : ∀ D ∈ DS, B ≤ D ∧ W.heap[D]? = some (.deferred (some []))
theorem Marks.nil (B : Nat) (W : World) : Marks B [] W := ⟨List.nodup_nil, fun D h => by cases h⟩
theorem Marks.lt {B : Nat} {DS : List Nat} {W : World} (h : Marks B DS W) : ∀ D ∈ DS, D < W.heap.size := fun D hD => (Array.getElem?_eq_some_iff.1 (h.at_ D hD).2).1
theorem Marks.keep {B : Nat} {DS : List Nat} {W W' : World} (h : Marks B DS W) (k : KeepsFrom B W W') : Marks B DS W' := ⟨h.nodup, fun D hD => ⟨(h.at_ D hD).1, k.same _ _ (h.at_ D hD).1 (h.at_ D hD).2 rfl⟩⟩
theorem Marks.below {B : Nat} {DS : List Nat} {W W' : World} (h : Marks B DS W) (k : Below W.heap.size W W') : Marks B DS W' := ⟨h.nodup, fun D hD => ⟨(h.at_ D hD).1, (k.block D (h.lt D hD)).trans (h.at_ D hD).2⟩⟩
theorem Marks.cons {B D : Nat} {DS : List Nat} {W : World} (h : Marks B DS W) (h1 : D ∉ DS) (h2 : B ≤ D) (h3 : W.heap[D]? = some (.deferred (some []))) : Marks B (D :: DS) W := ⟨List.nodup_cons.2 ⟨h1, h.nodup⟩, fun E hE => by
  rcases List.mem_cons.1 hE with rfl | hE
  · exact ⟨h2, h3⟩
  · exact h.at_ E hE⟩
/-- A frame leaves: its marks are taken, one by one. -/
theorem leaves_marks {F : Fence} {n : Nat} {fn : Func} {tmps : Array Value} {R : Ending → World → Prop} {B : Nat} (Q : World → Prop) (hQ : ∀ W D, Q W → B ≤ D → W.heap[D]? = some (.deferred (some [])) → Q (W.putObj D (.deferred none))) (hR : ∀ W, Q W → LeavesIn F n Try.prog fn tmps R [] .returning W) :
    ∀ DS W, Marks B DS W → Q W → LeavesInM F n Try.prog fn tmps R (DS.map mk1) .returning W := by
  intro DS
  induction DS with
  | nil => intro W _ h; exact hR W h
  | cons D DS ih =>
    intro W hm h
    obtain ⟨h1, h2⟩ := hm.at_ D List.mem_cons_self
    have hn := List.nodup_cons.1 hm.nodup
    refine ⟨by simp, .inl ⟨_, _, rfl, run_takeDeferred h2, ih _ ⟨hn.2, fun E hE => ?_⟩ (hQ W D h h1 h2)⟩⟩
    obtain ⟨k1, k2⟩ := hm.at_ E (List.mem_cons_of_mem _ hE)
    exact ⟨k1, (World.putObj_heap_other (fun (e : E = D) => hn.1 (e ▸ hE))).trans k2⟩
end Go.Proofs.Ytfpopbhbhdhdnaa
