/- Proved here, without conditions: when blocks of a world are a table of texts, and what keeps them so. -/
import Derived.Test.YtaniikdnlebknaaWords
import Derived.Test.YtaniikdnlebknaaChecked
import Derived.Maps.OwnSet
import Derived.Maps.AppendAt
import Derived.Laws.LoneSync
import Derived.Lib.Hide
namespace Go.Proofs.Ytaniikdnlebknaa
open Go.RowKit Go.Maps Go.WideMaps
set_option linter.unusedVariables false

/-- w' is w, but for the blocks of F and those that are new. -/
structure But (F : Nat → Prop) (w w' : World) : Prop where
  os : w'.os = w.os
  tape : w'.tape = w.tape
  output : w'.output = w.output
  size : w.heap.size ≤ w'.heap.size
  block : ∀ k, k < w.heap.size → ¬ F k → w'.heap[k]? = w.heap[k]?

section
variable {F F' : Nat → Prop} {w w' w'' : World}
theorem But.refl (F : Nat → Prop) (w : World) : But F w w := ⟨rfl, rfl, rfl, Nat.le_refl _, fun _ _ _ => rfl⟩
theorem But.trans (h : But F w w') (h' : But F' w' w'') (hF : ∀ k, F' k → F k ∨ w.heap.size ≤ k) : But F w w'' :=
  ⟨h'.os.trans h.os, h'.tape.trans h.tape, h'.output.trans h.output, Nat.le_trans h.size h'.size, fun k hk hn =>
    (h'.block k (Nat.lt_of_lt_of_le hk h.size) (fun hf => (hF k hf).elim hn (fun h => by omega))).trans (h.block k hk hn)⟩
theorem But.of_grown {row : Option Nat} (h : w.grownBy w' row) (hr : ∀ k, row = some k → F k) : But F w w' :=
  ⟨h.os, h.tape, h.output, h.size, fun k hk hn => h.block k hk (fun e => hn (hr k e.symm))⟩
theorem But.of_below {B : Nat} (h : Below B w w') (hB : ∀ k, k < w.heap.size → ¬ F k → k < B) : But F w w' :=
  ⟨h.os, h.tape, h.output, h.size, fun k hk hn => h.block k (hB k hk hn)⟩
theorem But.below {B : Nat} (h : But F w w') (hB : B ≤ w.heap.size) (hF : ∀ k, F k → B ≤ k) : Below B w w' :=
  ⟨h.os, h.tape, h.output, h.size, fun k hk => h.block k (by omega) (fun hf => by have := hF k hf; omega)⟩
theorem But.alloc (w : World) (o : Obj) : But F w (w.alloc o) := .of_grown (World.grownBy_alloc w o none) (by simp)
theorem But.setCell (w : World) {p : Addr} (hp : F p.block) (u : Value) : But F w (w.setCell p u) :=
  ⟨rfl, rfl, rfl, by simp [World.setCell], fun k hk hn => Below.heap_setCell _ _ _ _ (fun e => hn (e ▸ hp))⟩
theorem But.more (h : But F w w') (hF : ∀ k, F k → F' k) : But F' w w' :=
  ⟨h.os, h.tape, h.output, h.size, fun k hk hn => h.block k hk (fun hf => hn (hF k hf))⟩
end

/-- What a text reads as, as a key. -/
def keyL (s : List UInt8) : Lit := .string s
/-- A number as a datum. -/
def numD (i : Nat) : DataW Unit := .lit (.int .i64 i)

theorem law9 : Keyed Try.prog 9 := string_keyed Try.underlying9
theorem zero3 (w : World) : (zeroValue 3).run Try.prog w = .ok (.int .i64 0) w := by kernel_rfl
theorem key_of {s : List UInt8} (h : s.length ≤ maxLen) : keyOf Try.prog 9 (.string (str s)) = some (keyL s) := by
  have := keyOf_string_mk (P := Try.prog) (k := 9) Try.underlying9 (s := str s) (by rw [str_size]; exact h)
  rwa [str_data] at this
theorem keyL_key (s : List UInt8) : WideAt.IsKeyLit (keyL s) := by unfold keyL; trivial
theorem keyL_inj {s t : List UInt8} (h : keyL s = keyL t) : s = t := by injection h

/-- The datum D tells each text of ts its number, and knows no other text. -/
def Tells (D : DataW Unit) (ts : List (List UInt8)) : Prop :=
  IsMap D ∧ (∀ s, Maps.has D (keyL s) = ts.contains s) ∧ ∀ i s, ts[i]? = some s → ∀ z, D.atKey (keyL s) z = numD i
theorem tells_nil : Tells (.map []) [] := ⟨isMap_empty, fun _ => rfl, fun _ _ h => by simp at h⟩
theorem Tells.put {D : DataW Unit} {ts : List (List UInt8)} {s : List UInt8} (h : Tells D ts) (hs : s ∉ ts) : Tells (D.put (keyL s) (numD ts.length)) (ts ++ [s]) := by
  refine ⟨h.1.put _ _, fun t => ?_, fun i t ht z => ?_⟩
  · by_cases e : t = s
    · subst e
      rw [has_put_same h.1 (keyL_key _)]
      simp
    · rw [has_put_other (fun e' => e (keyL_inj e')), h.2.1]
      simp [e]
  · rcases Nat.lt_or_ge i ts.length with hi | hi
    · rw [List.getElem?_append_left hi] at ht
      have hm : t ∈ ts := List.mem_of_getElem? ht
      rw [atKey_put_other (fun e => hs (by rw [← keyL_inj e]; exact hm))]
      exact h.2.2 i t ht z
    · rw [List.getElem?_append_right hi] at ht
      have h0 : i = ts.length := by
        rcases Nat.eq_zero_or_pos (i - ts.length) with h0 | h0
        · omega
        · rw [List.getElem?_eq_none (by simp; omega)] at ht; cases ht
      subst h0
      simp at ht
      subst ht
      rw [atKey_put_same h.1 (keyL_key _)]

/-- The map in a table's first field. -/
def MapIs (w : World) (F : Nat → Prop) (m : Value) (ts : List (List UInt8)) : Prop :=
  (m = .map none ∧ ts = []) ∨ ∃ bm D, m = .map (some bm) ∧ F bm ∧ w.ownsMap Try.prog 9 (plainElem Try.prog 3) bm ts.length D ∧ Tells D ts

/-- Block T is a table of the texts ts, of which the blocks of F are part. -/
structure Tab (w : World) (T : Nat) (F : Nat → Prop) (ts : List (List UInt8)) : Prop where
  nodup : ts.Nodup
  few : ts.length ≤ 1000000
  texts : ∀ s ∈ ts, s.length ≤ maxLen
  head : F T
  lies : ∀ k, F k → T ≤ k ∧ k < w.heap.size
  rest : ∃ m v, w.heap[T]? = some (.cells #[m, v, .int .i64 ts.length] 49 (0, 0)) ∧ w.ownsRow (T + 1) 9 1 v ts.length (ts.map fun s => .string (str s)) ∧ (∀ k, v.ownBlock = some k → F k) ∧ MapIs w F m ts

section
variable {F F' : Nat → Prop} {w w' : World} {T : Nat} {ts : List (List UInt8)}
theorem MapIs.kept {m : Value} (h : MapIs w F m ts) (hk : ∀ k, F k → k < w.heap.size → w'.heap[k]? = w.heap[k]?) : MapIs w' F m ts := by
  rcases h with h | ⟨bm, D, hm, hF, ⟨es, clock, hb, r⟩, hD⟩
  · exact .inl h
  · exact .inr ⟨bm, D, hm, hF, ⟨es, clock, (hk bm hF (Array.getElem?_eq_some_iff.1 hb).1).trans hb, r⟩, hD⟩
theorem ownsRow_kept {base : Nat} {e : TypeId} {size n : Nat} {v : Value} {xs : List Value} (h : w.ownsRow base e size v n xs) (hk : ∀ k, v.ownBlock = some k → w'.heap[k]? = w.heap[k]?) : w'.ownsRow base e size v n xs := by
  refine ⟨h.1, ?_⟩
  rcases h.2 with h | ⟨g, cap, cur, rfl, hb, hg, r⟩
  · exact .inl h
  · exact .inr ⟨g, cap, cur, rfl, hb, (hk g rfl).trans hg, r⟩
/-- A table stays what it is while none of its blocks turns. -/
theorem Tab.kept (h : Tab w T F ts) (hs : w.heap.size ≤ w'.heap.size) (hk : ∀ k, F k → k < w.heap.size → w'.heap[k]? = w.heap[k]?) : Tab w' T F ts := by
  obtain ⟨m, v, h1, h2, h3, h4⟩ := h.rest
  have hl := h.lies
  refine ⟨h.nodup, h.few, h.texts, h.head, fun k hf => ⟨(hl k hf).1, by have := (hl k hf).2; omega⟩, m, v, ?_, ?_, h3, h4.kept hk⟩
  · rw [hk T h.head (hl T h.head).2]; exact h1
  · exact ownsRow_kept h2 fun k e => hk k (h3 k e) (hl k (h3 k e)).2
theorem Tab.but {G : Nat → Prop} (h : Tab w T F ts) (hb : But G w w') (hG : ∀ k, F k → ¬ G k) : Tab w' T F ts := h.kept hb.size fun k hf hk => hb.block k hk (hG k hf)
theorem Tab.below {B : Nat} (h : Tab w T F ts) (hb : Below B w w') (hB : w.heap.size ≤ B) : Tab w' T F ts := h.kept hb.size fun k _ hk => hb.block k (by omega)
theorem Tab.drew (h : Tab w T F ts) : Tab w.drew T F ts := h.kept (Nat.le_refl _) fun _ _ _ => rfl
theorem Tab.drewN (h : Tab w T F ts) (n : Nat) : Tab (w.drewN n) T F ts := h.kept (Nat.le_refl _) fun _ _ _ => rfl
end
end Go.Proofs.Ytaniikdnlebknaa
