/- Proved here, without conditions on the program: slices of changes that read as a list; a row of the call's own of them. -/
import Derived.Test.YtijinhhlikhjfaaMore
import Derived.Test.YtijinhhlikhjfaaEditPure
namespace Go.Proofs.Ytijinhhlikhjfaa
open Go.RowKit
set_option linter.unusedVariables false

/-- The cells of a change, and of changes. -/
def chC (c : Ch) : List Value := [.int .i64 c.1.1, .int .i64 c.1.2, .int .i64 c.2.1, .int .i64 c.2.2]
def chCs (cs : List Ch) : List Value := cs.flatMap chC
/-- A change as a value. -/
def chV (c : Ch) : Value := .agg #[.agg #[.int .i64 c.1.1, .int .i64 c.1.2], .agg #[.int .i64 c.2.1, .int .i64 c.2.2]]

/-- A slice of changes that reads as cs. -/
def Chs (w : World) (B : Nat) (A : Option Addr) (n : Nat) (cs : List Ch) : Prop :=
  cs.length = n ∧ (0 < n → ∃ b o : Nat, A = some ⟨b, o, none⟩ ∧ b < B ∧ ∀ j c, cs[j]? = some c →
    w.cell? ⟨b, o + j * 4, none⟩ = some (.int .i64 c.1.1) ∧ w.cell? ⟨b, o + j * 4 + 1, none⟩ = some (.int .i64 c.1.2) ∧ w.cell? ⟨b, o + j * 4 + 2, none⟩ = some (.int .i64 c.2.1) ∧ w.cell? ⟨b, o + j * 4 + 3, none⟩ = some (.int .i64 c.2.2))

section
variable {w w' : World} {B B' n : Nat} {A : Option Addr} {cs : List Ch}
theorem Chs.len (h : Chs w B A n cs) : cs.length = n := h.1
theorem Chs.at_ {k : Nat} (h : Chs w B A n cs) (hk : k < n) : ∃ b o c, A = some ⟨b, o, none⟩ ∧ b < B ∧ cs[k]? = some c ∧
    w.cell? ⟨b, o + k * 4, none⟩ = some (.int .i64 c.1.1) ∧ w.cell? ⟨b, o + k * 4 + 1, none⟩ = some (.int .i64 c.1.2) ∧ w.cell? ⟨b, o + k * 4 + 2, none⟩ = some (.int .i64 c.2.1) ∧ w.cell? ⟨b, o + k * 4 + 3, none⟩ = some (.int .i64 c.2.2) := by
  obtain ⟨b, o, e, hb, hc⟩ := h.2 (by omega)
  have hl : k < cs.length := by have := h.1; omega
  exact ⟨b, o, cs[k], e, hb, List.getElem?_eq_getElem hl, hc k _ (List.getElem?_eq_getElem hl)⟩
theorem Chs.keep (h : Chs w B A n cs) (hk : ∀ p : Addr, p.block < B → w'.cell? p = w.cell? p) : Chs w' B A n cs :=
  ⟨h.1, fun hn => by
    obtain ⟨b, o, e, hb, hc⟩ := h.2 hn
    refine ⟨b, o, e, hb, fun j c hj => ?_⟩
    obtain ⟨h1, h2, h3, h4⟩ := hc j c hj
    exact ⟨(hk _ hb).trans h1, (hk _ hb).trans h2, (hk _ hb).trans h3, (hk _ hb).trans h4⟩⟩
theorem Chs.more (h : Chs w B A n cs) (hB : B ≤ B') : Chs w B' A n cs :=
  ⟨h.1, fun hn => by
    obtain ⟨b, o, e, hb, hc⟩ := h.2 hn
    exact ⟨b, o, e, by omega, hc⟩⟩
theorem Chs.below (h : Chs w B A n cs) (hb : Below B w w') : Chs w' B A n cs := h.keep fun _ hp => hb.cell hp
theorem Chs.drewN (h : Chs w B A n cs) (q : Nat) : Chs (w.drewN q) B A n cs := h.keep fun _ _ => rfl
theorem Chs.drew (h : Chs w B A n cs) : Chs w.drew B A n cs := h.keep fun _ _ => rfl
theorem Chs.up (h : Chs w w.heap.size A n cs) (hb : Below w.heap.size w w') : Chs w' w'.heap.size A n cs := (h.below hb).more hb.size
theorem Nums.up {l : List Int} (h : Nums w w.heap.size A n l) (hb : Below w.heap.size w w') : Nums w' w'.heap.size A n l := (Nums.below h hb).more hb.size
theorem Chs.nil (w : World) (B : Nat) (A : Option Addr) : Chs w B A 0 [] := ⟨rfl, fun h => absurd h (by omega)⟩

theorem chCs_len : ∀ cs : List Ch, (chCs cs).length = cs.length * 4
  | [] => rfl
  | c :: cs => by
    show (chC c ++ chCs cs).length = _
    rw [List.length_append, chCs_len cs, List.length_cons]
    show 4 + cs.length * 4 = _
    omega
theorem chCs_at : ∀ (cs : List Ch) (j r : Nat) (c : Ch), cs[j]? = some c → r < 4 → (chCs cs)[j * 4 + r]? = (chC c)[r]?
  | [], _, _, _, h, _ => by simp at h
  | d :: cs, 0, r, c, h, hr => by
    simp at h
    subst h
    show (chC d ++ chCs cs)[0 * 4 + r]? = _
    rw [Nat.zero_mul, Nat.zero_add, List.getElem?_append_left (by show r < 4; exact hr)]
  | d :: cs, j + 1, r, c, h, hr => by
    show (chC d ++ chCs cs)[(j + 1) * 4 + r]? = _
    rw [List.getElem?_append_right (by show 4 ≤ _; omega), show (j + 1) * 4 + r - (chC d).length = j * 4 + r by show (j + 1) * 4 + r - 4 = _; omega]
    exact chCs_at cs j r c (by simpa using h) hr
theorem chCs_snoc (cs : List Ch) (c : Ch) : chCs (cs ++ [c]) = chCs cs ++ chC c := by simp [chCs]
theorem chC_one (c : Ch) : ∀ u ∈ chC c, u.oneCell' = true := by
  intro u hu
  simp [chC] at hu
  rcases hu with rfl | rfl | rfl | rfl <;> rfl

/-- A row of changes of the call's own reads as them. -/
theorem chs_of_own {base : Nat} {e : TypeId} {v : Value} (h : w.ownsRow base e 4 v n (chCs cs)) : ∃ A c, v = .slice A n c ∧ n ≤ c ∧ c ≤ maxLen ∧ Chs w w.heap.size A n cs := by
  have hl : cs.length = n := by have := h.1; rw [chCs_len] at this; omega
  have hread : ∀ (g c : Nat), v = .slice (some ⟨g, 0, none⟩) n c → Chs w w.heap.size (some ⟨g, 0, none⟩) n cs := by
    rintro g c rfl
    refine ⟨hl, fun hn => ⟨g, 0, rfl, (h.lt g rfl).2, fun j c hj => ?_⟩⟩
    have hc := h.cells (g := g) rfl
    have hadd : ∀ k, (⟨g, 0, none⟩ : Addr).add k = ⟨g, k, none⟩ := fun k => by unfold Addr.add; split <;> simp_all
    have key : ∀ r, r < 4 → ∀ u, (chC c)[r]? = some u → w.cell? ⟨g, 0 + j * 4 + r, none⟩ = some u := fun r hr u hu => by
      rw [Nat.zero_add, ← hadd]
      exact hc _ u ((chCs_at cs j r c hj hr).trans hu)
    exact ⟨key 0 (by omega) _ rfl, key 1 (by omega) _ rfl, key 2 (by omega) _ rfl, key 3 (by omega) _ rfl⟩
  rcases h.2 with ⟨rfl, rfl⟩ | ⟨g, cap, cur, rfl, _, _, hnc, hcm, _⟩
  · exact ⟨none, 0, rfl, Nat.le_refl _, Nat.zero_le _, hl, fun h => absurd h (by omega)⟩
  · exact ⟨_, cap, rfl, hnc, hcm, hread g cap rfl⟩
end

/-- Numbers that have come as far as place k. -/
def ChOut (w w' : World) (e : Ending) (er : Int) (cs : List Ch) : Prop := ∃ A n c, e = .returned (.tuple #[.slice A n c, .int .i64 er]) ∧ n = cs.length ∧ n ≤ c ∧ c ≤ maxLen ∧ Chs w' w'.heap.size A n cs ∧ Below w.heap.size w w'
theorem ChOut.nothing {w w' : World} {er : Int} (hb : Below w.heap.size w w') : ChOut w w' (.returned (.tuple #[.slice none 0 0, .int .i64 er])) er [] := ⟨none, 0, 0, rfl, rfl, Nat.le_refl _, Nat.zero_le _, Chs.nil _ _ _, hb⟩

/-- What Changes tells: a number of an error, and the changes. -/
def chErr (l : List Int) (N : Int) : Int := if 2000 < l.length ∨ 2000 < N then 4 else if may l N = true then 0 else 1
def chRes (l : List Int) (N : Int) : List Ch := if chErr l N = 0 then chs l N else []

/-- A number that an int may hold. -/
def inR (v : Int) : Prop := -9223372036854775808 ≤ v ∧ v ≤ 9223372036854775807
def NumsR (l : List Int) : Prop := ∀ v ∈ l, inR v
def ChsR (l : List Ch) : Prop := ∀ c ∈ l, inR c.1.1 ∧ inR c.1.2 ∧ inR c.2.1 ∧ inR c.2.2
end Go.Proofs.Ytijinhhlikhjfaa
