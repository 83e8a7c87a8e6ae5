/- A set of packet numbers in memory, of one block of ranges at most, over this translation; where a number's block is. -/
import Derived.Test.YtfpopbhbhdhdnaaSq
set_option linter.unusedVariables false
namespace Go.Proofs.Ytfpopbhbhdhdnaa
open Go.RowKit

/-- The block that a slice begins in is among these. -/
def InX (v : Value) (X : List Nat) : Prop := ∀ g, v.ownBlock = some g → g ∈ X
/-- A set's blocks: none, or one. -/
def Rows (w : World) (v : Value) (L : List Rn) (X : List Nat) : Prop :=
  (L = [] ∧ ∃ p cap, v = .slice p 0 cap ∧ w.ownsRow 0 30 1 v 0 []) ∨
  (0 < L.length ∧ ∃ g cap rg rc, v = .slice (some ⟨g, 0, none⟩) 1 cap ∧ w.ownsRow 0 30 1 (.slice (some ⟨g, 0, none⟩) 1 cap) 1 [.slice (some ⟨rg, 0, none⟩) L.length rc] ∧ RR w (.slice (some ⟨rg, 0, none⟩) L.length rc) L ∧ rg ∈ X)
/-- A set at block b, its memory in the blocks X. -/
def SetAt (w : World) (b : Nat) (X : List Nat) (L : List Rn) : Prop := ∃ v, Blk w b 91 #[v] ∧ b ∈ X ∧ InX v X ∧ Rows w v L X

theorem own1_keep {T : TypeId} {w w' : World} {v : Value} {n : Nat} {xs : List Value} {k : Nat} (h : w.ownsRow 0 T k v n xs) (hk : ∀ g cs, v.ownBlock = some g → Blk w g T cs → w'.heap[g]? = w.heap[g]?) : w'.ownsRow 0 T k v n xs := by
  refine ⟨h.1, ?_⟩
  rcases h.2 with c | ⟨g, cap, cur, e, hb, hg, k⟩
  · exact .inl c
  · exact .inr ⟨g, cap, cur, e, hb, by rw [hk g cur (by rw [e]; rfl) hg]; exact hg, k⟩
theorem Rows.keep {w w' : World} {v : Value} {L : List Rn} {X : List Nat} (h : Rows w v L X) (k : ∀ x T cs, x ∈ X → Blk w x T cs → w'.heap[x]? = w.heap[x]?) (hX : InX v X) : Rows w' v L X := by
  rcases h with ⟨rfl, p, cap, e, ho⟩ | ⟨hp, g, cap, rg, rc, rfl, ho, hr, hx⟩
  · exact .inl ⟨rfl, p, cap, e, own1_keep ho fun g cs e hb => k g _ cs (hX g e) hb⟩
  · exact .inr ⟨hp, g, cap, rg, rc, rfl, own1_keep ho fun g cs e hb => k g _ cs (hX g e) hb, hr.same fun g cs e hb => k g _ cs (by simp [Value.ownBlock] at e; subst e; exact hx) hb, hx⟩
theorem SetAt.keepX {w w' : World} {b : Nat} {X : List Nat} {L : List Rn} (h : SetAt w b X L) (k : ∀ x T cs, x ∈ X → Blk w x T cs → w'.heap[x]? = w.heap[x]?) : SetAt w' b X L := by
  obtain ⟨v, hb, hx, hv, hr⟩ := h
  exact ⟨v, by unfold Blk; rw [k b _ _ hx hb]; exact hb, hx, hv, hr.keep k hv⟩
theorem SetAt.keep {w w' : World} {b : Nat} {X : List Nat} {L : List Rn} (h : SetAt w b X L) (k : Below w.heap.size w w') : SetAt w' b X L := h.keepX fun x T cs _ hb => k.block x hb.lt
theorem SetAt.drew {w : World} {b : Nat} {X : List Nat} {L : List Rn} (h : SetAt w b X L) : SetAt w.drew b X L := h
theorem SetAt.fr {w w' : World} {b : Nat} {X Y : List Nat} {L : List Rn} (h : SetAt w b X L) (k : Fr w w' Y) (hd : ∀ x ∈ X, x ∉ Y) : SetAt w' b X L := h.keepX fun x T cs hx hb => k.block x hb.lt (hd x hx)
theorem SetAt.lt {w : World} {b : Nat} {X : List Nat} {L : List Rn} (h : SetAt w b X L) : b < w.heap.size := by obtain ⟨v, hb, _⟩ := h; exact hb.lt

/-- The last range's end. -/
def lastB (L : List Rn) : Nat := (L.getD (L.length - 1) Itm.z).b
def blockN (L : List Rn) (n : Nat) : Nat := if 0 < L.length ∧ lastB L < n then 1 else 0

theorem close_any (L : List Rn) (p : Option Addr) (n cap : Nat) (w : World) (h : Its w p L) (hp : 0 < L.length) (hm : L.length ≤ 1000) :
    Calls Try.prog 80 #[.slice p L.length cap, .int .u64 (n : Int)] w fun e w' => e = .returned (.int .i64 (cmpN (lastB L) n)) ∧ Below w.heap.size w w' := by
  obtain ⟨ad, rfl, _⟩ := h.cells hp
  obtain ⟨b, off, rfl, hb, hc⟩ := its_two h hp
  obtain ⟨c0, c1⟩ := hc (L.length - 1) (by omega)
  clear hc h
  have hen := fun W => ends_any (L.getD (L.length - 1) Itm.z) n W
  unfold lastB
  generalize L.getD (L.length - 1) Itm.z = r at *
  obtain ⟨x, y⟩ := r
  unfold Rn.agg at hen
  dsimp only at hen c0 c1 ⊢
  generalize cmpN y n = c at hen ⊢
  have e1 : ((L.length : Int) - 1) = ((L.length - 1 : Nat) : Int) := by omega
  have e2 : ((L.length : Int) - 1).toNat = L.length - 1 := by omega
  have E1 := Lib.hid e1
  clear e1
  have hlt : (L.length - 1) < L.length := by omega
  generalize hk : L.length - 1 = k at *
  have HK := Lib.hid hk
  clear hk
  go_enter Try.func80, Try.ntmps80
  go_wp2_with (go_at_call 81; refine (hen _).mono ?_; rintro e w' ⟨rfl, hw⟩)
  go_ret
  exact ⟨rfl, hw⟩
end Go.Proofs.Ytfpopbhbhdhdnaa
