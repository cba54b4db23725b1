/- Proved here: texts joined: EdPure, Push, TxO. -/
import Derived.Test.YtdfpifipkchmnaaDoorBc03
import Derived.Test.YtdfpifipkchmnaaDoorBc04
import Derived.Test.YtdfpifipkchmnaaDoorBc16
import Derived.Test.YtdfpifipkchmnaaDoorChecked
import Derived.WalkLawsBesides
import Derived.IntWalk
import Derived.OwnWalk
import Derived.Maps.AppendAt
/- Proved here, without conditions: plain facts on the editor (layer 17): how a command is read; what it makes of a file; lines stay lines; commands behind others. -/
namespace Go.Proofs.YtdfpifipkchmnaaDoor
set_option linter.unusedVariables false

/-- Is a byte a figure? -/
def figB (c : UInt8) : Bool := decide (48 ≤ c.toNat) && decide (c.toNat ≤ 57)
def numV (s : Tx) : Nat := s.foldl (fun n c => 10 * n + (c.toNat - 48)) 0
/-- One to nine figures, without a nought ahead of others; -1: it is none. -/
def numE (s : Tx) : Int := if s.length = 0 ∨ 9 < s.length ∨ (s.head? = some 48 ∧ 1 < s.length) ∨ s.all figB = false then -1 else (numV s : Nat)
def linesE (s : Tx) : Int × Int := if s.contains 44 = false then (numE s, numE s) else (numE (s.takeWhile fun c => c != 44), numE ((s.dropWhile fun c => c != 44).drop 1))
def comB (c : UInt8) : Bool := figB c || c == 44
def knownE (pre rest : Tx) : Int × Int × UInt8 :=
  if ((rest = [97, 10] ∧ pre.contains 44 = false) ∨ rest = [99, 10] ∨ rest = [100, 10] ∨ rest = subT) ∧ 0 ≤ (linesE pre).1 ∧ 0 ≤ (linesE pre).2 then ((linesE pre).1, (linesE pre).2, rest.headD 0) else (0, 0, 0)
/-- A command: its lines, and what is done; 0: it is none. -/
def readE (s : Tx) : Int × Int × UInt8 :=
  if s = [119, 10] then (0, 0, 119) else if s = [113, 10] then (0, 0, 113) else if lnB s = false then (0, 0, 0) else knownE (s.takeWhile comB) (s.dropWhile comB)
def layE (file : Txs) (m n : Nat) (l : Txs) : Txs := file.take m ++ l ++ file.drop n
/-- What a command makes: an error, and its line, or the file, whether it was written, and how many lines more the command has. -/
abbrev StE := (Nat × Nat) ⊕ (Txs × Bool × Nat)
def insE (len at_ m n : Nat) (rest file : Txs) : StE :=
  if (unblockD [] 0 rest).2 = 0 then .inl (2, len + 1)
  else if mayB (unblockD [] 0 rest).1 = false ∨ openB (unblockD [] 0 rest).1 = true then .inl (2, at_ + 1)
  else .inr (layE file m n (unblockD [] 0 rest).1, false, (unblockD [] 0 rest).2)
def partE (file : Txs) (m n : Int) : Txs := (file.take n.toNat).drop (m - 1).toNat
def leastE (what : UInt8) : Int := if what = 97 then 0 else 1
def doE (len at_ : Nat) (rest file : Txs) (m n : Int) (what : UInt8) : StE :=
  if m < leastE what ∨ n < m ∨ (file.length : Int) < n then .inl (3, at_ + 1)
  else if what = 97 then insE len at_ m.toNat m.toNat rest file
  else if what = 99 then insE len at_ (m - 1).toNat n.toNat rest file
  else if what = 100 then .inr (layE file (m - 1).toNat n.toNat [], false, 0)
  else if dottedB (partE file m n) = false then .inl (7, at_ + 1)
  else .inr (layE file (m - 1).toNat n.toNat (stripD (partE file m n)), false, 0)
def stepE (len at_ : Nat) (s : Tx) (rest file : Txs) (saved : Bool) : StE :=
  if (readE s).2.2 = 113 then .inr (file, saved, rest.length)
  else if (readE s).2.2 = 0 then .inl (2, at_ + 1)
  else if (readE s).2.2 = 119 then .inr (file, true, 0)
  else doE len at_ rest file (readE s).1 (readE s).2.1 (readE s).2.2
/-- Commands, one behind the other. -/
def runE (len at_ : Nat) (l file : Txs) (saved : Bool) : (Nat × Nat) ⊕ (Txs × Bool) :=
  match l with
  | [] => .inr (file, saved)
  | s :: rest => match stepE len at_ s rest file saved with
    | .inl e => .inl e
    | .inr (f, sv, k) => runE len (at_ + 1 + k) (rest.drop k) f sv
  termination_by l.length
  decreasing_by simp; omega
/-- What Run tells: the file, whether it was written, the line, the error. -/
def edR (script file : Txs) : Txs × Bool × Nat × Nat :=
  if mayB file = false ∨ openB file = true then ([], false, 0, 1)
  else match runE script.length 0 script file false with
    | .inl (e, line) => ([], false, line, e)
    | .inr (f, sv) => (f, sv, 0, 0)

section
variable {len at_ k m n e line c : Nat} {s t : Tx} {l rest file f a b more text script : Txs} {saved sv sv' : Bool} {x : Txs × Bool × Nat} {M N : Int} {what : UInt8}

theorem run_nil : runE len at_ [] file saved = .inr (file, saved) := by rw [runE]
theorem run_bad1 (h : stepE len at_ s rest file saved = .inl (e, line)) : runE len at_ (s :: rest) file saved = .inl (e, line) := by rw [runE, h]
theorem run_go1 (h : stepE len at_ s rest file saved = .inr (f, sv, k)) : runE len at_ (s :: rest) file saved = runE len (at_ + 1 + k) (rest.drop k) f sv := by rw [runE, h]

/-! ### LINES STAY LINES. -/
theorem unblock_le : ∀ {l acc : Txs} {i : Nat}, (unblockD acc i l).2 ≤ i + l.length ∧ (∀ t ∈ (unblockD acc i l).1, t ∈ acc ∨ t ∈ l)
  | [], acc, i => ⟨by simp [unblockD], by simp [unblockD]⟩
  | t :: l, acc, i => by
    unfold unblockD
    split
    · exact ⟨by simp only [List.length_cons]; omega, fun u hu => .inl hu⟩
    · obtain ⟨h1, h2⟩ := unblock_le (l := l) (acc := acc ++ [t]) (i := i + 1)
      refine ⟨by rw [List.length_cons]; omega, fun u hu => ?_⟩
      rcases h2 u hu with h | h
      · rcases List.mem_append.1 h with h | h
        · exact .inl h
        · exact .inr (by rw [List.mem_singleton.1 h]; exact List.mem_cons_self ..)
      · exact .inr (List.mem_cons_of_mem _ h)
theorem lay_lines (hf : ∀ t ∈ file, lnB t = true) (hl : ∀ t ∈ l, lnB t = true) : ∀ t ∈ layE file m n l, lnB t = true := by
  intro t ht
  unfold layE at ht
  rcases List.mem_append.1 ht with ht | ht
  · rcases List.mem_append.1 ht with ht | ht
    · exact hf t (List.mem_of_mem_take ht)
    · exact hl t ht
  · exact hf t (List.mem_of_mem_drop ht)
theorem ln_bare (h : lnB s = true) : lnB (bareT s) = true := by
  unfold bareT
  split
  · rename_i hp
    obtain ⟨w, rfl, hw⟩ := line_of h
    cases w with
    | nil => simp [pointB] at hp
    | cons c w => exact ln_of fun hx => hw (List.mem_cons_of_mem _ hx)
  · exact h
theorem part_mem (h : t ∈ partE file M N) : t ∈ file := List.mem_of_mem_take (List.mem_of_mem_drop h)
theorem ins_lines (hf : ∀ t ∈ file, lnB t = true) (h : insE len at_ m n rest file = .inr (f, sv, k)) : (∀ t ∈ f, lnB t = true) ∧ k ≤ rest.length := by
  unfold insE at h
  split at h
  · cases h
  · split at h
    · cases h
    · rename_i h1 h2
      simp only [Sum.inr.injEq, Prod.mk.injEq] at h
      obtain ⟨rfl, rfl, rfl⟩ := h
      simp only [not_or, Bool.not_eq_false, Bool.not_eq_true] at h2
      refine ⟨lay_lines hf (lines_iff.1 h2), ?_⟩
      have := (unblock_le (l := rest) (acc := []) (i := 0)).1
      omega
theorem do_lines (hf : ∀ t ∈ file, lnB t = true) (h : doE len at_ rest file M N what = .inr (f, sv, k)) : (∀ t ∈ f, lnB t = true) ∧ k ≤ rest.length := by
  unfold doE at h
  split at h
  · cases h
  · split at h
    · exact ins_lines hf h
    · split at h
      · exact ins_lines hf h
      · split at h
        · simp only [Sum.inr.injEq, Prod.mk.injEq] at h
          obtain ⟨rfl, rfl, rfl⟩ := h
          exact ⟨lay_lines hf (by simp), Nat.zero_le _⟩
        · split at h
          · cases h
          · simp only [Sum.inr.injEq, Prod.mk.injEq] at h
            obtain ⟨rfl, rfl, rfl⟩ := h
            refine ⟨lay_lines hf fun t ht => ?_, Nat.zero_le _⟩
            obtain ⟨u, hu, rfl⟩ := List.mem_map.1 ht
            exact ln_bare (hf u (part_mem hu))
theorem step_lines (hf : ∀ t ∈ file, lnB t = true) (h : stepE len at_ s rest file saved = .inr (f, sv, k)) : (∀ t ∈ f, lnB t = true) ∧ k ≤ rest.length := by
  unfold stepE at h
  split at h
  · simp only [Sum.inr.injEq, Prod.mk.injEq] at h
    obtain ⟨rfl, rfl, rfl⟩ := h
    exact ⟨hf, Nat.le_refl _⟩
  · split at h
    · cases h
    · split at h
      · simp only [Sum.inr.injEq, Prod.mk.injEq] at h
        obtain ⟨rfl, rfl, rfl⟩ := h
        exact ⟨hf, Nat.zero_le _⟩
      · exact do_lines hf h
theorem run_lines : ∀ (k : Nat) {l file : Txs} {at_ : Nat} {saved : Bool}, l.length ≤ k → (∀ t ∈ file, lnB t = true) → runE len at_ l file saved = .inr (f, sv) → ∀ t ∈ f, lnB t = true
  | 0, l, file, at_, saved, hk, hf, h => by
    obtain rfl : l = [] := List.eq_nil_of_length_eq_zero (by omega)
    rw [run_nil] at h
    simp only [Sum.inr.injEq, Prod.mk.injEq] at h
    rw [← h.1]
    exact hf
  | k + 1, [], file, at_, saved, hk, hf, h => by
    rw [run_nil] at h
    simp only [Sum.inr.injEq, Prod.mk.injEq] at h
    rw [← h.1]
    exact hf
  | k + 1, s :: rest, file, at_, saved, hk, hf, h => by
    cases hs : stepE len at_ s rest file saved with
    | inl x => rw [run_bad1 (e := x.1) (line := x.2) hs] at h; cases h
    | inr x =>
      obtain ⟨g, sv2, j⟩ := x
      rw [run_go1 hs] at h
      refine run_lines k ?_ (step_lines hf hs).1 h
      rw [List.length_drop]
      rw [List.length_cons] at hk
      omega

/-! ### WHICH LINE IS WRONG. -/
theorem ins_bad (h : insE len at_ m n rest file = .inl (e, line)) (hl : at_ + 1 ≤ len) : e = 2 ∧ at_ < line ∧ line ≤ len + 1 := by
  unfold insE at h
  split at h
  · simp only [Sum.inl.injEq, Prod.mk.injEq] at h; omega
  · split at h
    · simp only [Sum.inl.injEq, Prod.mk.injEq] at h; omega
    · cases h
theorem do_bad (h : doE len at_ rest file M N what = .inl (e, line)) (hl : at_ + 1 ≤ len) : (e = 2 ∨ e = 3 ∨ e = 7) ∧ at_ < line ∧ line ≤ len + 1 := by
  unfold doE at h
  split at h
  · simp only [Sum.inl.injEq, Prod.mk.injEq] at h; omega
  · split at h
    · have := ins_bad h hl; omega
    · split at h
      · have := ins_bad h hl; omega
      · split at h
        · cases h
        · split at h
          · simp only [Sum.inl.injEq, Prod.mk.injEq] at h; omega
          · cases h
theorem step_bad (h : stepE len at_ s rest file saved = .inl (e, line)) (hl : at_ + 1 ≤ len) : (e = 2 ∨ e = 3 ∨ e = 7) ∧ at_ < line ∧ line ≤ len + 1 := by
  unfold stepE at h
  split at h
  · cases h
  · split at h
    · simp only [Sum.inl.injEq, Prod.mk.injEq] at h; omega
    · split at h
      · cases h
      · exact do_bad h hl
theorem run_bad : ∀ (k : Nat) {l file : Txs} {at_ : Nat} {saved : Bool}, l.length ≤ k → (∀ t ∈ file, lnB t = true) → at_ + l.length = len → runE len at_ l file saved = .inl (e, line) → (e = 2 ∨ e = 3 ∨ e = 7) ∧ at_ < line ∧ line ≤ len + 1
  | 0, l, file, at_, saved, hk, hf, hl, h => by
    obtain rfl : l = [] := List.eq_nil_of_length_eq_zero (by omega)
    rw [run_nil] at h
    cases h
  | k + 1, [], file, at_, saved, hk, hf, hl, h => by rw [run_nil] at h; cases h
  | k + 1, s :: rest, file, at_, saved, hk, hf, hl, h => by
    rw [List.length_cons] at hk hl
    cases hs : stepE len at_ s rest file saved with
    | inl x =>
      rw [run_bad1 (e := x.1) (line := x.2) hs] at h
      simp only [Sum.inl.injEq, Prod.mk.injEq] at h
      have := step_bad (e := x.1) (line := x.2) hs (by omega)
      omega
    | inr x =>
      obtain ⟨g, sv2, j⟩ := x
      rw [run_go1 hs] at h
      obtain ⟨h1, h2⟩ := step_lines hf hs
      have := run_bad k (by rw [List.length_drop]; omega) h1 (by rw [List.length_drop]; omega) h
      omega
theorem edR_may (hs : edR script file = (f, saved, line, e)) : (e ≠ 0 → f = [] ∧ saved = false ∧ line ≤ script.length + 1 ∧ (line = 0 ↔ e = 1)) ∧ (e = 0 → line = 0 ∧ mayB f = true ∧ openB f = false) := by
  unfold edR at hs
  split at hs
  · simp only [Prod.mk.injEq] at hs
    obtain ⟨rfl, rfl, rfl, rfl⟩ := hs
    simp
  · rename_i hc
    simp only [not_or, Bool.not_eq_false, Bool.not_eq_true] at hc
    have hf := lines_iff.1 hc
    split at hs
    · rename_i e' line' h
      simp only [Prod.mk.injEq] at hs
      obtain ⟨rfl, rfl, rfl, rfl⟩ := hs
      have := run_bad _ (Nat.le_refl _) hf (Nat.zero_add _) h
      exact ⟨fun _ => ⟨rfl, rfl, by omega, by omega⟩, fun h0 => by omega⟩
    · rename_i f' sv' h
      simp only [Prod.mk.injEq] at hs
      obtain ⟨rfl, rfl, rfl, rfl⟩ := hs
      exact ⟨fun h0 => absurd rfl h0, fun _ => ⟨rfl, lines_iff.2 (run_lines _ (Nat.le_refl _) hf h)⟩⟩
end
end Go.Proofs.YtdfpifipkchmnaaDoor
/- Proved here, without conditions on the program: what lies in a world behind allocs; new blocks that read as texts, as lists of texts. -/
namespace Go.Proofs.YtdfpifipkchmnaaDoor
open Go.RowKit
set_option linter.unusedVariables false

theorem push_at (w : World) (o : Obj) (k : Nat) : (w.alloc o).heap[k]? = if k = w.heap.size then some o else w.heap[k]? := by
  show (w.heap.push o)[k]? = _
  rw [Array.getElem?_push]
theorem push_size (w : World) (o : Obj) : (w.alloc o).heap.size = w.heap.size + 1 := by simp
theorem below_alloc {a w : World} (h : Below a.heap.size a w) (o : Obj) : Below a.heap.size a (w.alloc o) := h.alloc h.size o
theorem below_drew {a w : World} (h : Below a.heap.size a w) : Below a.heap.size a w.drew := below_drewN h 1
theorem two_a (w : World) (o1 o2 : Obj) : ((w.alloc o1).alloc o2).heap[w.heap.size]? = some o1 ∧ ((w.alloc o1).alloc o2).heap[w.heap.size + 1]? = some o2 := by
  constructor
  · rw [push_at, if_neg (by simp), push_at, if_pos rfl]
  · rw [push_at, push_size, if_pos rfl]
theorem one_a (w : World) (o1 : Obj) : (w.alloc o1).heap[w.heap.size]? = some o1 := by rw [push_at, if_pos rfl]
theorem TxR.but {F : Nat → Prop} {w w' : World} {r : Slc} {ss : Txs} (h : TxR w w.heap.size r ss) (hb : But F w w') (hF : 0 < r.2.1 → ∀ q o, r.1 = some ⟨q, o, none⟩ → ¬ F q) : TxR w' w'.heap.size r ss := by
  refine ⟨h.1, h.2.1, h.2.2.1, fun hn => ?_⟩
  obtain ⟨b, o, e, hlt, hc⟩ := h.2.2.2 hn
  exact ⟨b, o, e, Nat.lt_of_lt_of_le hlt hb.size, fun j u hu => (World.cell?_of_block (w := w) (hb.block b hlt (hF hn b o e))).trans (hc j u hu)⟩
theorem txr_of {W : World} {g n : Nat} {ss : Txs} {C : Array Value} {t : TypeId} (h : W.heap[g]? = some (.cells C t (0, 0))) (hC : C = (ss.map fun s => Value.string (str s)).toArray) (hn : ss.length = n) (hm : n ≤ maxLen) : TxR W W.heap.size (some ⟨g, 0, none⟩, n, n) ss := by
  refine ⟨Nat.le_refl _, hm, by simpa using hn, fun _ => ⟨g, 0, rfl, (Array.getElem?_eq_some_iff.1 h).1, fun j u hu => ?_⟩⟩
  rw [Nat.zero_add, cells_of h, hC]
  simpa using hu
theorem rowsT_of {W : World} {g n : Nat} {rows : List Slc} {sss : List Txs} {C : Array Value} {t : TypeId} (h : W.heap[g]? = some (.cells C t (0, 0))) (hC : C = (rows.map slcV).toArray) (hn : rows.length = n) (hl : rows.length = sss.length)
    (each : ∀ (k : Nat) (r : Slc) (ss : Txs), rows[k]? = some r → sss[k]? = some ss → TxR W W.heap.size r ss) : RowsT W W.heap.size (some ⟨g, 0, none⟩) n rows sss := by
  refine ⟨⟨by simpa using hn, fun _ => ⟨g, 0, rfl, (Array.getElem?_eq_some_iff.1 h).1, fun j u hu => ?_⟩⟩, hl, each⟩
  rw [Nat.zero_add, cells_of h, hC]
  simpa using hu
end Go.Proofs.YtdfpifipkchmnaaDoor
/- Proved here: texts of the call's own; numbers that an int may hold. -/
namespace Go.Proofs.YtdfpifipkchmnaaDoor
open Go.RowKit
set_option linter.unusedVariables false

theorem infoStr : (Tryd.prog.info? 9).map (fun i => (i.zero, i.size, i.bytes)) = some (some (.string ByteArray.empty), 1, 16) := by kernel_rfl
/-- Texts of the call's own. -/
structure TxO (w wr : World) (v : Value) (xs : Txs) : Prop where
  own : wr.ownsRow w.heap.size 9 1 v xs.length (xs.map fun s => .string (str s))
  below : Below w.heap.size w wr
theorem TxO.out {w wr : World} {v : Value} {xs : Txs} (h : TxO w wr v xs) : TxsOut w wr (.returned v) xs := by
  obtain ⟨A, c, rfl, h1, h2, h3⟩ := own_slice h.own
  exact ⟨A, _, c, rfl, ⟨h1, h2, h3⟩, h.below⟩
theorem TxO.put {w wr w2 : World} {v v' : Value} {xs ys : Txs} {m : Nat} (h : TxO w wr v xs) (hl : ys.length = m) (hown : w2.ownsRow w.heap.size 9 1 v' (xs.length + m) ((xs.map fun s => .string (str s)) ++ ys.map fun s => .string (str s))) (hg : wr.grownBy w2 v.ownBlock) : TxO w w2 v' (xs ++ ys) := by
  refine ⟨?_, h.below.grown hg h.below.size fun j e => (h.own.lt j e).1⟩
  rw [List.length_append, hl, List.map_append]
  exact hown

/-- A number that an int may hold. -/
def inR64 (v : Int) : Prop := -9223372036854775808 ≤ v ∧ v ≤ 9223372036854775807
theorem wrap_pred {n : Int} {k m : Nat} (hn : inR64 n) (hk : k < m) (hm : m ≤ 9223372036854775807) : ((k : Int) == IntKind.i64.wrap (n - 1)) = decide ((k : Int) = n - 1) := by
  unfold inR64 at hn
  by_cases h : -9223372036854775808 ≤ n - 1
  · rw [IntWalk.i64_in _ (by omega)]
    rfl
  · have e : n = -9223372036854775808 := by omega
    subst e
    have : IntKind.i64.wrap (-9223372036854775808 - 1) = 9223372036854775807 := by decide
    rw [this]
    have h1 : ¬ (k : Int) = 9223372036854775807 := by omega
    have h2 : ¬ (k : Int) = -9223372036854775808 - 1 := by omega
    rw [decide_eq_false h2]
    simpa using h1

theorem strs_app (a b : Tx) : str a ++ str b = str (a ++ b) := by
  apply ByteArray.ext
  simp [str]
theorem str_feed (s : Tx) : str s ++ ⟨#[10]⟩ = str (s ++ [10]) := by
  apply ByteArray.ext
  simp [str]
theorem TxO.push {w wr w2 : World} {v v' : Value} {xs : Txs} {s : Tx} {o : Obj} (h : TxO w wr v xs) (hown : w2.ownsRow w.heap.size 9 1 v' (xs.length + 1) ((xs.map fun s => .string (str s)) ++ [.string (str s)])) (hg : (wr.alloc o).grownBy w2 v.ownBlock) : TxO w w2 v' (xs ++ [s]) := by
  have hs := h.below.size
  refine ⟨?_, (h.below.alloc hs o).grown hg (by simp; omega) fun j e => (h.own.lt j e).1⟩
  rw [List.length_append, List.map_append]
  exact hown

end Go.Proofs.YtdfpifipkchmnaaDoor
