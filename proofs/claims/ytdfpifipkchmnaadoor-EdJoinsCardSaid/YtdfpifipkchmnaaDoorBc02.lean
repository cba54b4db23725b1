/- Proved here: texts joined: More. -/
import Derived.Test.YtdfpifipkchmnaaDoorBc01
import Derived.Deep.OwnRows
import Derived.Maps.AppendAt
import Derived.OwnWalk
import Derived.IntWalk
import Derived.Lib.Hide
/- Proved here, without conditions on the program: a world that is another one but for some blocks; slices of numbers, and of slices of these, that read as lists; rows of the call's own. (What all stages share.) -/
namespace Go.Proofs.YtdfpifipkchmnaaDoor
open Go.RowKit
set_option linter.unusedVariables false

/-- w' is w, but for the blocks of F and those that are new. -/
structure But (F : Nat → Prop) (w w' : World) : Prop where
  os : w'.os = w.os
  tape : w'.tape = w.tape
  output : w'.output = w.output
  size : w.heap.size ≤ w'.heap.size
  block : ∀ k, k < w.heap.size → ¬ F k → w'.heap[k]? = w.heap[k]?

section
variable {F F' : Nat → Prop} {w w' w'' : World}
theorem But.refl (F : Nat → Prop) (w : World) : But F w w := ⟨rfl, rfl, rfl, Nat.le_refl _, fun _ _ _ => rfl⟩
theorem But.trans (h : But F w w') (h' : But F' w' w'') (hF : ∀ k, F' k → F k ∨ w.heap.size ≤ k) : But F w w'' :=
  ⟨h'.os.trans h.os, h'.tape.trans h.tape, h'.output.trans h.output, Nat.le_trans h.size h'.size, fun k hk hn =>
    (h'.block k (Nat.lt_of_lt_of_le hk h.size) (fun hf => (hF k hf).elim hn (fun h => by omega))).trans (h.block k hk hn)⟩
theorem But.of_grown {row : Option Nat} (h : w.grownBy w' row) (hr : ∀ k, row = some k → F k) : But F w w' :=
  ⟨h.os, h.tape, h.output, h.size, fun k hk hn => h.block k hk (fun e => hn (hr k e.symm))⟩
theorem But.of_below {B : Nat} (h : Below B w w') (hB : ∀ k, k < w.heap.size → ¬ F k → k < B) : But F w w' :=
  ⟨h.os, h.tape, h.output, h.size, fun k hk hn => h.block k (hB k hk hn)⟩
theorem But.below {B : Nat} (h : But F w w') (hB : B ≤ w.heap.size) (hF : ∀ k, F k → B ≤ k) : Below B w w' :=
  ⟨h.os, h.tape, h.output, h.size, fun k hk => h.block k (by omega) (fun hf => by have := hF k hf; omega)⟩
theorem But.alloc (w : World) (o : Obj) : But F w (w.alloc o) := .of_grown (World.grownBy_alloc w o none) (by simp)
theorem But.setCell (w : World) {p : Addr} (hp : F p.block) (u : Value) : But F w (w.setCell p u) :=
  ⟨rfl, rfl, rfl, by simp [World.setCell], fun k hk hn => Below.heap_setCell _ _ _ _ (fun e => hn (e ▸ hp))⟩
theorem But.more (h : But F w w') (hF : ∀ k, F k → F' k) : But F' w w' :=
  ⟨h.os, h.tape, h.output, h.size, fun k hk hn => h.block k hk (fun hf => hn (hF k hf))⟩
end

theorem cells_of {w : World} {T : Nat} {C : Array Value} {t : TypeId} (h : w.heap[T]? = some (.cells C t (0, 0))) (k : Nat) : w.cell? ⟨T, k, none⟩ = C[k]? := by
  simp [World.cell?, h]
theorem unfrozen_of {w : World} {T : Nat} {C : Array Value} {t : TypeId} (h : w.heap[T]? = some (.cells C t (0, 0))) (k : Nat) : w.frozen? ⟨T, k, none⟩ = false := by
  simp [World.frozen?, h]

theorem own_slice {w : World} {base n : Nat} {e : TypeId} {v : Value} {xs : List Value} (h : w.ownsRow base e 1 v n xs) : ∃ A c, v = .slice A n c ∧ n ≤ c ∧ c ≤ maxLen ∧ Reads w w.heap.size A n xs := by
  rcases h.2 with ⟨rfl, rfl⟩ | ⟨g, cap, cur, rfl, _, _, hnc, hcm, _⟩
  · exact ⟨none, 0, rfl, Nat.le_refl _, Nat.zero_le _, Reads.of_own h⟩
  · exact ⟨_, cap, rfl, hnc, hcm, Reads.of_own h⟩

theorem ownsRow_kept {w w' : World} {base : Nat} {e : TypeId} {size n : Nat} {v : Value} {xs : List Value} (h : w.ownsRow base e size v n xs) (hk : ∀ k, v.ownBlock = some k → w'.heap[k]? = w.heap[k]?) : w'.ownsRow base e size v n xs := by
  refine ⟨h.1, ?_⟩
  rcases h.2 with h | ⟨g, cap, cur, rfl, hb, hg, r⟩
  · exact .inl h
  · exact .inr ⟨g, cap, cur, rfl, hb, (hk g rfl).trans hg, r⟩
theorem take_at {α : Type} {ss : List α} {k : Nat} {s : α} (h : ss[k]? = some s) : ss.take (k + 1) = ss.take k ++ [s] := by
  obtain ⟨hk, rfl⟩ := List.getElem?_eq_some_iff.1 h
  rw [List.take_succ_eq_append_getElem hk]
theorem drop_at {α : Type} {ss : List α} {k : Nat} {s : α} (h : ss[k]? = some s) : ss.drop k = s :: ss.drop (k + 1) := by
  obtain ⟨hk, rfl⟩ := List.getElem?_eq_some_iff.1 h
  exact (List.drop_eq_getElem_cons hk)

/-- A slice of numbers that reads as xs. -/
def Nums (w : World) (B : Nat) (A : Option Addr) (n : Nat) (xs : List Int) : Prop := Reads w B A n (xs.map fun x => .int .i64 x)
/-- A slice of slices of numbers. -/
def RowsN (w : World) (B : Nat) (A : Option Addr) (n : Nat) (rows : List (Option Addr × Nat × Nat)) (xss : List (List Int)) : Prop :=
  Reads w B A n (rows.map fun r => .slice r.1 r.2.1 r.2.2) ∧ rows.length = xss.length ∧ ∀ (k : Nat) (r : Option Addr × Nat × Nat) (xs : List Int), rows[k]? = some r → xss[k]? = some xs → Nums w B r.1 r.2.1 xs

theorem Nums.len {w : World} {B n : Nat} {A : Option Addr} {xs : List Int} (h : Nums w B A n xs) : xs.length = n := by have := h.1; simpa using this
theorem Nums.at_ {w : World} {B n : Nat} {A : Option Addr} {xs : List Int} {k : Nat} (h : Nums w B A n xs) (hk : k < n) :
    ∃ b o x, A = some ⟨b, o, none⟩ ∧ b < B ∧ xs[k]? = some x ∧ w.cell? ⟨b, o + k, none⟩ = some (.int .i64 x) := by
  obtain ⟨b, o, u, e, hb, hu, hc⟩ := Reads.at_ h hk
  rw [List.getElem?_map] at hu
  cases h : xs[k]? with
  | none => rw [h] at hu; cases hu
  | some t => rw [h] at hu; exact ⟨b, o, t, e, hb, rfl, by rw [hc]; simpa using hu.symm⟩
theorem RowsN.at_ {w : World} {B n k : Nat} {A : Option Addr} {rows : List (Option Addr × Nat × Nat)} {xss : List (List Int)} (h : RowsN w B A n rows xss) (hk : k < n) :
    ∃ b o A' n' c' xs, A = some ⟨b, o, none⟩ ∧ b < B ∧ xss[k]? = some xs ∧ w.cell? ⟨b, o + k, none⟩ = some (.slice A' n' c') ∧ Nums w B A' n' xs := by
  obtain ⟨b, o, u, e, hb, hu, hc⟩ := Reads.at_ h.1 hk
  rw [List.getElem?_map] at hu
  cases hr : rows[k]? with
  | none => rw [hr] at hu; cases hu
  | some r =>
    rw [hr] at hu
    have hlt : k < xss.length := by have := (List.getElem?_eq_some_iff.1 hr).1; have := h.2.1; omega
    exact ⟨b, o, r.1, r.2.1, r.2.2, xss[k], e, hb, List.getElem?_eq_getElem hlt, by rw [hc]; simpa using hu.symm, h.2.2 k r _ hr (List.getElem?_eq_getElem hlt)⟩
theorem RowsN.len {w : World} {B n : Nat} {A : Option Addr} {rows : List (Option Addr × Nat × Nat)} {xss : List (List Int)} (h : RowsN w B A n rows xss) : xss.length = n := by
  have := h.1.1; have := h.2.1; simp at *; omega
theorem Nums.below {w w' : World} {B n : Nat} {A : Option Addr} {xs : List Int} (h : Nums w B A n xs) (hb : Below B w w') : Nums w' B A n xs := Reads.below h hb
theorem Nums.more {w : World} {B B' n : Nat} {A : Option Addr} {xs : List Int} (h : Nums w B A n xs) (hb : B ≤ B') : Nums w B' A n xs := Reads.more h hb
theorem RowsN.below {w w' : World} {B n : Nat} {A : Option Addr} {rows : List (Option Addr × Nat × Nat)} {xss : List (List Int)} (h : RowsN w B A n rows xss) (hb : Below B w w') : RowsN w' B A n rows xss :=
  ⟨h.1.below hb, h.2.1, fun k r ss h1 h2 => Reads.below (h.2.2 k r ss h1 h2) hb⟩
theorem RowsN.more {w : World} {B B' n : Nat} {A : Option Addr} {rows : List (Option Addr × Nat × Nat)} {xss : List (List Int)} (h : RowsN w B A n rows xss) (hb : B ≤ B') : RowsN w B' A n rows xss :=
  ⟨Reads.more h.1 hb, h.2.1, fun k r ss h1 h2 => Reads.more (h.2.2 k r ss h1 h2) hb⟩
theorem RowsN.drewN {w : World} {B n : Nat} {A : Option Addr} {rows : List (Option Addr × Nat × Nat)} {xss : List (List Int)} (h : RowsN w B A n rows xss) (q : Nat) : RowsN (w.drewN q) B A n rows xss :=
  ⟨Reads.keep h.1 fun _ _ => rfl, h.2.1, fun k r ss h1 h2 => Reads.keep (h.2.2 k r ss h1 h2) fun _ _ => rfl⟩
theorem reads_of_row {w : World} {b n : Nat} {t : TypeId} {f : Nat → Value} (h : w.rowIs b t n f) (xs : List Value) (hl : xs.length = n) (hx : ∀ i u, xs[i]? = some u → f i = u) : Reads w w.heap.size (some ⟨b, 0, none⟩) n xs :=
  ⟨hl, fun _ => ⟨b, 0, rfl, h.lt, fun j u hu => by
    have hj : j < n := by have := (List.getElem?_eq_some_iff.1 hu).1; omega
    rw [Nat.zero_add, h.cell hj, hx j u hu]⟩⟩

/-- A new block of slice values, each of which reads as its list. -/
theorem Rows2.new {w : World} {rows : List (Option Addr × Nat × Nat)} {sss : List (List (List UInt8))} (t : TypeId) (n : Nat) (C : Array Value) (hC : C = (rows.map fun r => Value.slice r.1 r.2.1 r.2.2).toArray) (hn : rows.length = n) (hl : rows.length = sss.length) (h : ∀ (k : Nat) (r : Option Addr × Nat × Nat) (ss : List (List UInt8)), rows[k]? = some r → sss[k]? = some ss → Strs w w.heap.size r.1 r.2.1 ss) :
    Rows2 (w.alloc (.cells C t)) (w.alloc (.cells C t)).heap.size (some ⟨w.heap.size, 0, none⟩) n rows sss := by
  subst hC
  refine ⟨⟨by simpa using hn, fun _ => ⟨w.heap.size, 0, rfl, by simp, fun j u hu => ?_⟩⟩, hl, fun k r ss h1 h2 => ?_⟩
  · rw [World.cell?_alloc_mark]
    simpa using hu
  · exact Reads.more (Reads.keep (h k r ss h1 h2) fun p hp => World.cell?_alloc_lt _ _ p hp) (by simp)
theorem Strs.new {w : World} (ss : List (List UInt8)) (t : TypeId) (n : Nat) (C : Array Value) (hC : C = (ss.map fun s => Value.string (str s)).toArray) (hn : ss.length = n) :
    Strs (w.alloc (.cells C t)) (w.alloc (.cells C t)).heap.size (some ⟨w.heap.size, 0, none⟩) n ss := by
  subst hC
  refine ⟨by simpa using hn, fun _ => ⟨w.heap.size, 0, rfl, by simp, fun j u hu => ?_⟩⟩
  rw [World.cell?_alloc_mark]
  simpa using hu

theorem own_apart {w : World} {b1 b2 n m : Nat} {e1 e2 : TypeId} {v u : Value} {xs ys : List Value} (h : w.ownsRow b1 e1 1 v n xs) (k : w.ownsRow b2 e2 1 u m ys) (hne : e1 ≠ e2) : v.ownBlock = none ∨ v.ownBlock ≠ u.ownBlock := by
  rcases h.2 with ⟨rfl, _⟩ | ⟨g, cap, cur, rfl, _, hg, _⟩
  · exact .inl rfl
  · refine .inr fun e => ?_
    rcases k.2 with ⟨rfl, _⟩ | ⟨g', cap', cur', rfl, _, hg', _⟩
    · simp [Value.ownBlock] at e
    · simp only [Value.ownBlock, Option.some.injEq] at e
      subst e
      rw [hg] at hg'
      injection hg' with hg'
      simp at hg'
      exact hne hg'.2

theorem below_drewN {B : Nat} {a w : World} (h : Below B a w) (q : Nat) : Below B a (w.drewN q) := ⟨h.os, h.tape, h.output, h.size, h.block⟩
theorem Strs.grown {w1 w2 : World} {B n : Nat} {A : Option Addr} {ss : List (List UInt8)} {row : Option Nat} (h : Strs w1 B A n ss) (hB : B ≤ w1.heap.size) (hg : w1.grownBy w2 row) (hr : ∀ b o, A = some ⟨b, o, none⟩ → row ≠ some b) : Strs w2 B A n ss := by
  refine ⟨h.1, fun hn => ?_⟩
  obtain ⟨b, o, rfl, hlt, hc⟩ := h.2 hn
  exact ⟨b, o, rfl, hlt, fun i u hu => (World.cell?_of_block (w := w1) (hg.block b (by omega) (fun e => hr b o rfl e.symm))).trans (hc i u hu)⟩
theorem Strs.but {w w' : World} {B n : Nat} {A : Option Addr} {F : Nat → Prop} {ss : List (List UInt8)} (h : Strs w B A n ss) (hB : B ≤ w.heap.size) (hb : But F w w') (hF : ∀ b o, A = some ⟨b, o, none⟩ → ¬ F b) : Strs w' B A n ss := by
  refine ⟨h.1, fun hn => ?_⟩
  obtain ⟨b, o, rfl, hlt, hc⟩ := h.2 hn
  exact ⟨b, o, rfl, hlt, fun j u hu => (World.cell?_of_block (w := w) (hb.block b (by omega) (hF b o rfl))).trans (hc j u hu)⟩
theorem Nums.grown {w1 w2 : World} {B n : Nat} {A : Option Addr} {xs : List Int} {row : Option Nat} (h : Nums w1 B A n xs) (hB : B ≤ w1.heap.size) (hg : w1.grownBy w2 row) (hr : ∀ b o, A = some ⟨b, o, none⟩ → row ≠ some b) : Nums w2 B A n xs := by
  refine ⟨h.1, fun hn => ?_⟩
  obtain ⟨b, o, rfl, hlt, hc⟩ := h.2 hn
  exact ⟨b, o, rfl, hlt, fun i u hu => (World.cell?_of_block (w := w1) (hg.block b (by omega) (fun e => hr b o rfl e.symm))).trans (hc i u hu)⟩
theorem Nums.drewN {w : World} {B n : Nat} {A : Option Addr} {xs : List Int} (h : Nums w B A n xs) (k : Nat) : Nums (w.drewN k) B A n xs := Reads.keep h fun _ _ => rfl
theorem Nums.drew {w : World} {B n : Nat} {A : Option Addr} {xs : List Int} (h : Nums w B A n xs) : Nums w.drew B A n xs := Reads.keep h fun _ _ => rfl
theorem nums_one (xs : List Int) : ∀ u ∈ xs.map (fun x => Value.int .i64 x), u.oneCell' = true := by
  intro u hu
  obtain ⟨b, _, rfl⟩ := List.mem_map.1 hu
  rfl
theorem Nums.new {w : World} (xs : List Int) (t : TypeId) (n : Nat) (C : Array Value) (hC : C = (xs.map fun x => Value.int .i64 x).toArray) (hn : xs.length = n) :
    Nums (w.alloc (.cells C t)) (w.alloc (.cells C t)).heap.size (some ⟨w.heap.size, 0, none⟩) n xs := by
  subst hC
  refine ⟨by simpa using hn, fun _ => ⟨w.heap.size, 0, rfl, by simp, fun j u hu => ?_⟩⟩
  rw [World.cell?_alloc_mark]
  simpa using hu
/-- A row of numbers of the call's own reads as them. -/
theorem nums_of_own {w : World} {base n : Nat} {e : TypeId} {v : Value} {xs : List Int} (h : w.ownsRow base e 1 v n (xs.map fun x => .int .i64 x)) : ∃ A c, v = .slice A n c ∧ n ≤ c ∧ c ≤ maxLen ∧ Nums w w.heap.size A n xs := own_slice h
end Go.Proofs.YtdfpifipkchmnaaDoor
