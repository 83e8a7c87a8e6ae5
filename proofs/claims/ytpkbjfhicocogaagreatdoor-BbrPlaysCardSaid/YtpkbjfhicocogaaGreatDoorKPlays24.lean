/- 1 texts put together: what each one says stands ahead of it. -/
import Derived.Test.YtpkbjfhicocogaaGreatDoorKPlays19
import Derived.Maps.AppendAt
import Derived.Deep.AppendLies
import Derived.OwnWalk
/- Rows of the document's readings that a call owns, over this translation. -/
set_option linter.unusedVariables false
namespace Go.Proofs.YtpkbjfhicocogaaGreatDoor
open Go.RowKit Pl

theorem re_info : (Tryz.prog.info? 153).map (fun i => (i.zero, i.size, i.bytes)) = some (some (.agg #[.int .u64 0, .int .u64 0]), 2, 16) := by kernel_rfl

/-- A slice of readings of the call's own (from block B on): nil, or a row that it made. -/
def RL (w : World) (B : Nat) (v : Value) (l : List Rd) : Prop :=
  w.ownsRow B 153 2 v l.length (l.flatMap (Itm.cs (α := Rd))) ∧ ((v = .slice none 0 0 ∧ l = []) ∨ ∃ g cap, v = .slice (some ⟨g, 0, none⟩) l.length cap ∧ 0 < l.length)

theorem RL.nil (w : World) (B : Nat) : RL w B (.slice none 0 0) [] := ⟨⟨by simp, .inl ⟨rfl, rfl⟩⟩, .inl ⟨rfl, rfl⟩⟩
theorem RL.own {w : World} {B : Nat} {v : Value} {l : List Rd} (h : RL w B v l) : w.ownsRow B 153 2 v l.length (l.flatMap (Itm.cs (α := Rd))) := h.1
/-- The block of a row that is not nil. -/
theorem RL.blk {w : World} {B : Nat} {l : List Rd} {g n cap : Nat} (h : RL w B (.slice (some ⟨g, 0, none⟩) n cap) l) : ∃ cs, Blk w g 153 cs ∧ B ≤ g := by
  rcases h.1.2 with ⟨e, _⟩ | ⟨g', cap', cur, e, hb, hg, _⟩
  · cases e
  · injection e with e; injection e with e; injection e with e; subst e
    exact ⟨cur, hg, hb⟩
theorem RL.same {w w' : World} {B : Nat} {v : Value} {l : List Rd} (h : RL w B v l) (hk : ∀ g cs, v.ownBlock = some g → Blk w g 153 cs → w'.heap[g]? = w.heap[g]?) : RL w' B v l := by
  refine ⟨⟨h.1.1, ?_⟩, h.2⟩
  rcases h.1.2 with c | ⟨g, cap, cur, e, hb, hg, k⟩
  · exact .inl c
  · exact .inr ⟨g, cap, cur, e, hb, by rw [hk g cur (by rw [e]; rfl) hg]; exact hg, k⟩
theorem RL.keep {w w' : World} {B : Nat} {v : Value} {l : List Rd} (h : RL w B v l) (k : Below w.heap.size w w') : RL w' B v l := h.same fun g cs _ hb => k.block g hb.lt
theorem RL.fr {w w' : World} {B : Nat} {v : Value} {l : List Rd} {L : List Nat} (h : RL w B v l) (k : Fr w w' L) (hl : ∀ g, v.ownBlock = some g → g ∉ L) : RL w' B v l := h.same fun g cs e hb => k.block g hb.lt (hl g e)
/-- A row of the document's readings is no block of a filter's. -/
theorem RL.far {w : World} {B : Nat} {v : Value} {l : List Rd} (h : RL w B v l) {a b c : Nat} {f : FS} (k : FlAt w a b c f) : ∀ g, v.ownBlock = some g → g ∉ [a, b, c] := by
  intro g e
  rcases h.2 with ⟨rfl, _⟩ | ⟨g', cap, rfl, _⟩
  · simp [Value.ownBlock] at e
  · simp [Value.ownBlock] at e
    subst e
    obtain ⟨cs, hb, _⟩ := RL.blk h
    obtain ⟨c1, k1⟩ := k.row.head
    obtain ⟨c2, k2⟩ := k.row.body
    simp
    exact ⟨hb.ty k.head (by decide), hb.ty k1 (by decide), hb.ty k2 (by decide)⟩
theorem flat_get (l : List Rd) {i : Nat} (h : i < l.length) : (l.flatMap (Itm.cs (α := Rd)))[i * 2]? = some (.int .u64 ((l.getD i Itm.z).t : Int)) ∧ (l.flatMap (Itm.cs (α := Rd)))[i * 2 + 1]? = some (.int .u64 ((l.getD i Itm.z).x : Int)) := by
  have e : ∀ j, j < 2 → (l.flatMap (Itm.cs (α := Rd)))[i * 2 + j]? = (Itm.cs (l.getD i Itm.z))[j]? := fun j hj => by
    have := iget (α := Rd) l i j hj
    rw [show Itm.k Rd = 2 from rfl] at this
    rw [this]; simp [List.getD_eq_getElem?_getD, h]
  exact ⟨e 0 (by decide), e 1 (by decide)⟩
theorem RL.cells {w : World} {B : Nat} {l : List Rd} {g n cap : Nat} (h : RL w B (.slice (some ⟨g, 0, none⟩) n cap) l) {i : Nat} (hi : i < l.length) :
    w.cell? ⟨g, i * 2, none⟩ = some (.int .u64 ((l.getD i Itm.z).t : Int)) ∧ w.cell? ⟨g, i * 2 + 1, none⟩ = some (.int .u64 ((l.getD i Itm.z).x : Int)) := by
  rcases h.1.2 with ⟨e, _⟩ | ⟨g', cap', cur, e, hb, hg, h1, h2, h3, h4⟩
  · cases e
  · injection e with e e2 e3; injection e with e; injection e with e; subst e
    have hh : Blk w g 153 cur := hg
    obtain ⟨e0, e1⟩ := flat_get l hi
    have hlt : ∀ j, j < 2 → i * 2 + j < l.length * 2 := fun j hj => by omega
    have key : ∀ j u, j < 2 → (l.flatMap (Itm.cs (α := Rd)))[i * 2 + j]? = some u → cur[i * 2 + j]? = some u := fun j u hj hu => by
      rw [← h4, List.getElem?_take_of_lt (hlt j hj)] at hu
      simpa using hu
    exact ⟨hh.cell (key 0 _ (by decide) e0), hh.cell (key 1 _ (by decide) e1)⟩
theorem RL.form {w : World} {B : Nat} {v : Value} {l : List Rd} (h : RL w B v l) (hl : 0 < l.length) : ∃ g cap, v = .slice (some ⟨g, 0, none⟩) l.length cap := by
  rcases h.2 with ⟨_, rfl⟩ | ⟨g, cap, e, _⟩
  · simp at hl
  · exact ⟨g, cap, e⟩
theorem RL.len_val {w : World} {B : Nat} {v : Value} {l : List Rd} (h : RL w B v l) : ∃ p cap, v = .slice p l.length cap := by
  rcases h.2 with ⟨rfl, rfl⟩ | ⟨g, cap, e, _⟩
  · exact ⟨none, 0, rfl⟩
  · exact ⟨_, cap, e⟩
theorem RL.mk {w : World} {B g n cap : Nat} {l : List Rd} (r : Rd) (hn : n = l.length) (h : w.ownsRow B 153 2 (.slice (some ⟨g, 0, none⟩) (n + 1) cap) (n + 1) (l.flatMap (Itm.cs (α := Rd)) ++ Itm.cs r)) : RL w B (.slice (some ⟨g, 0, none⟩) (n + 1) cap) (l ++ [r]) := by
  subst hn
  refine ⟨?_, .inr ⟨g, cap, by simp, by simp⟩⟩
  have e : (l ++ [r]).flatMap (Itm.cs (α := Rd)) = l.flatMap (Itm.cs (α := Rd)) ++ Itm.cs r := by simp
  rw [e, List.length_append]
  exact h
end Go.Proofs.YtpkbjfhicocogaaGreatDoor
