/- Proved here: texts joined: EdPl, Apart, LinOpen, IdxB, LinMay. -/
import Derived.Test.YtdfpifipkchmnaaGreatDoorBa01
import Derived.Test.YtdfpifipkchmnaaGreatDoorBa02
import Derived.Test.YtdfpifipkchmnaaGreatDoorBa04
import Derived.Test.YtdfpifipkchmnaaGreatDoorBa13
import Derived.Test.YtdfpifipkchmnaaGreatDoorBa18
import Derived.Lib.Atoi
import Derived.Lib.SlTrimSet
import Derived.Lib.Strings
import Derived.Test.YtdfpifipkchmnaaGreatDoorChecked
import Derived.Lib.Bytealg
import Derived.WalkLawsBesides
import Derived.Lib.Hide
import Derived.Deep.QuietTactic
import Derived.BigQuiet
/- Proved here, without a word of the program: how the landed editor reads a command, and that it is as the document has it. -/
namespace Go.Proofs.YtdfpifipkchmnaaGreatDoor
set_option linter.unusedVariables false

/-- Parts between commas. -/
def splitC : Tx → List Tx
  | [] => [[]]
  | c :: r => if c = 44 then [] :: splitC r else match splitC r with
    | [] => [[c]]
    | p :: ps => (c :: p) :: ps
/-- May a text of figures be a number? -/
def mayN (s : Tx) : Bool := decide (s = [48]) || (decide (s ≠ []) && decide (s.length ≤ 9) && decide (s.head? ≠ some 48))
/-- The numbers ahead of a command's name. -/
def cutN (pre : Tx) : Option (List Nat) := if pre = [] then some [] else if (splitC pre).all mayN then some ((splitC pre).map numV) else none
def subN : Tx := [115, 47, 94, 92, 46, 47, 47]
/-- What a name stands for; 0: it is none. -/
def nameW (name : Tx) : UInt8 := if name = [97] then 97 else if name = [99] then 99 else if name = [100] then 100 else if name = subN then 115 else if name = [119] then 119 else if name = [113] then 113 else 0
/-- How many numbers it takes. -/
def numsB (what : UInt8) (n : Nat) : Bool := if what = 97 then decide (n = 1) else if what = 119 ∨ what = 113 then decide (n = 0) else decide (n = 1 ∨ n = 2)

section
variable {s t pre name : Tx} {what : UInt8} {l : List Nat} {m n k : Nat}
theorem splitC_ne : ∀ (s : Tx), splitC s ≠ []
  | [] => by simp [splitC]
  | c :: r => by
    unfold splitC
    split
    · simp
    · split <;> simp
theorem splitC_none : ∀ {s : Tx}, (44 : UInt8) ∉ s → splitC s = [s]
  | [], _ => rfl
  | c :: r, h => by
    rw [splitC, if_neg (fun e => h (by rw [e]; exact List.mem_cons_self ..)), splitC_none (s := r) fun hr => h (List.mem_cons_of_mem _ hr)]
theorem splitC_at : ∀ {a : Tx} (b : Tx), (44 : UInt8) ∉ a → splitC (a ++ 44 :: b) = a :: splitC b
  | [], b, _ => by simp [splitC]
  | c :: a, b, h => by
    rw [List.cons_append, splitC, if_neg (fun e => h (by rw [e]; exact List.mem_cons_self ..)), splitC_at b fun hr => h (List.mem_cons_of_mem _ hr)]
/-- A text with commas, cut at the first one. -/
theorem comma_cut : ∀ {s : Tx}, (44 : UInt8) ∈ s → ∃ a b, s = a ++ 44 :: b ∧ (44 : UInt8) ∉ a
  | [], h => by cases h
  | c :: r, h => by
    by_cases e : c = 44
    · exact ⟨[], r, by rw [e]; rfl, by simp⟩
    · rcases List.mem_cons.1 h with h | h
      · exact absurd h.symm e
      · obtain ⟨a, b, rfl, hn⟩ := comma_cut h
        exact ⟨c :: a, b, rfl, fun hm => (List.mem_cons.1 hm).elim (fun h => e h.symm) hn⟩
theorem splitC_mem : ∀ {s p : Tx}, p ∈ splitC s → ∀ c ∈ p, c ∈ s ∧ c ≠ 44
  | [], p, h, c, hc => by
    simp only [splitC, List.mem_singleton] at h
    subst h
    cases hc
  | d :: r, p, h, c, hc => by
    unfold splitC at h
    split at h
    · rcases List.mem_cons.1 h with h | h
      · subst h; cases hc
      · exact ⟨List.mem_cons_of_mem _ (splitC_mem h c hc).1, (splitC_mem h c hc).2⟩
    · rename_i hd
      split at h
      · rename_i he
        exact absurd he (splitC_ne r)
      · rename_i q qs he
        rcases List.mem_cons.1 h with h | h
        · subst h
          rcases List.mem_cons.1 hc with hc | hc
          · subst hc
            exact ⟨List.mem_cons_self .., hd⟩
          · have := splitC_mem (s := r) (p := q) (by rw [he]; exact List.mem_cons_self ..) c hc
            exact ⟨List.mem_cons_of_mem _ this.1, this.2⟩
        · have := splitC_mem (s := r) (p := p) (by rw [he]; exact List.mem_cons_of_mem _ h) c hc
          exact ⟨List.mem_cons_of_mem _ this.1, this.2⟩
theorem splitC_len : ∀ {s p : Tx}, p ∈ splitC s → p.length ≤ s.length
  | [], p, h => by
    simp only [splitC, List.mem_singleton] at h
    subst h
    simp
  | d :: r, p, h => by
    unfold splitC at h
    split at h
    · rcases List.mem_cons.1 h with h | h
      · subst h; simp
      · have := splitC_len h; simp only [List.length_cons]; omega
    · split at h
      · rename_i he
        exact absurd he (splitC_ne r)
      · rename_i q qs he
        rcases List.mem_cons.1 h with h | h
        · subst h
          have := splitC_len (s := r) (p := q) (by rw [he]; exact List.mem_cons_self ..)
          simp only [List.length_cons]; omega
        · have := splitC_len (s := r) (p := p) (by rw [he]; exact List.mem_cons_of_mem _ h)
          simp only [List.length_cons]; omega
theorem splitC_cnt : ∀ (s : Tx), (splitC s).length ≤ s.length + 1
  | [] => by simp [splitC]
  | d :: r => by
    have := splitC_cnt r
    unfold splitC
    split
    · simp only [List.length_cons]; omega
    · split
      · simp
      · rename_i q qs he
        rw [he] at this
        simp only [List.length_cons] at this ⊢
        omega
theorem com_fig {c : UInt8} (h : comB c = true) (h2 : c ≠ 44) : figB c = true := by
  unfold comB at h
  rw [Bool.or_eq_true] at h
  exact h.elim id fun h => absurd (by simpa using h) h2
theorem part_figs (h : ∀ c ∈ pre, comB c = true) {p : Tx} (hp : p ∈ splitC pre) : p.all figB = true := by
  rw [List.all_eq_true]
  intro c hc
  have := splitC_mem hp c hc
  exact com_fig (h c this.1) this.2
/-- A part is a number just if it may be one. -/
theorem mayN_num (h : s.all figB = true) : (mayN s = true → numE s = (numV s : Nat)) ∧ (mayN s = false → numE s = -1) := by
  unfold mayN numE
  constructor
  · intro hm
    rw [Bool.or_eq_true, Bool.and_eq_true, Bool.and_eq_true, decide_eq_true_eq, decide_eq_true_eq, decide_eq_true_eq, decide_eq_true_eq] at hm
    rw [if_neg]
    rintro (h0 | h0 | h0 | h0)
    · rcases hm with rfl | ⟨⟨h1, _⟩, _⟩
      · cases h0
      · exact h1 (List.eq_nil_of_length_eq_zero h0)
    · rcases hm with rfl | ⟨⟨_, h1⟩, _⟩
      · simp at h0
      · omega
    · rcases hm with rfl | ⟨_, h1⟩
      · simp at h0
      · exact h1 h0.1
    · rw [h] at h0; cases h0
  · intro hm
    rw [if_pos]
    rw [Bool.or_eq_false_iff, decide_eq_false_iff_not] at hm
    obtain ⟨h1, h2⟩ := hm
    by_cases h3 : s = []
    · exact .inl (by rw [h3]; rfl)
    · by_cases h4 : s.length ≤ 9
      · rw [decide_eq_true h3, decide_eq_true h4, Bool.and_true, Bool.true_and, decide_eq_false_iff_not, ne_eq, Decidable.not_not] at h2
        refine .inr (.inr (.inl ⟨h2, ?_⟩))
        cases s with
        | nil => exact absurd rfl h3
        | cons c r =>
          cases r with
          | nil =>
            simp at h2
            subst h2
            exact absurd rfl h1
          | cons d r => simp
      · exact .inr (.inl (by omega))
theorem numV_fold : ∀ (s : Tx) (a : Nat), s.all figB = true → Lib.decFrom a s = some (s.foldl (fun n c => 10 * n + (c.toNat - 48)) a)
  | [], a, _ => rfl
  | c :: r, a, h => by
    rw [List.all_cons, Bool.and_eq_true] at h
    have hc := h.1
    unfold figB at hc
    rw [Bool.and_eq_true, decide_eq_true_eq, decide_eq_true_eq] at hc
    rw [Lib.decFrom, Lib.digitVal, if_pos ⟨hc.1, hc.2⟩]
    simp only [List.foldl_cons]
    rw [numV_fold r _ h.2, Nat.mul_comm a 10]
theorem atoi_num (h : s.all figB = true) (h0 : s ≠ []) : Lib.atoi s = some ((numV s : Nat) : Int) := by
  cases s with
  | nil => exact absurd rfl h0
  | cons c r =>
    have hc := (List.all_eq_true.1 h) c (List.mem_cons_self ..)
    unfold figB at hc
    rw [Bool.and_eq_true, decide_eq_true_eq, decide_eq_true_eq] at hc
    have n1 : (c == 45) = false := by
      rw [beq_eq_false_iff_ne]; rintro rfl; exact absurd hc.1 (by decide)
    have n2 : (c == 43) = false := by
      rw [beq_eq_false_iff_ne]; rintro rfl; exact absurd hc.1 (by decide)
    simp only [Lib.atoi, n1, n2, Bool.false_eq_true, if_false]
    unfold Lib.decNat
    rw [List.isEmpty_cons]
    simp only [Bool.false_eq_true, if_false]
    rw [numV_fold _ _ h]
    rfl
theorem numX_lt : ∀ (s : Tx) (a : Nat), s.all figB = true → s.foldl (fun n c => 10 * n + (c.toNat - 48)) a < (a + 1) * 10 ^ s.length
  | [], a, _ => by simp
  | c :: r, a, h => by
    rw [List.all_cons, Bool.and_eq_true] at h
    have hc := h.1
    unfold figB at hc
    rw [Bool.and_eq_true, decide_eq_true_eq, decide_eq_true_eq] at hc
    simp only [List.foldl_cons, List.length_cons, Nat.pow_succ]
    have := numX_lt r (10 * a + (c.toNat - 48)) h.2
    have h2 : (10 * a + (c.toNat - 48) + 1) * 10 ^ r.length ≤ (a + 1) * 10 * 10 ^ r.length := Nat.mul_le_mul_right _ (by omega)
    exact Nat.lt_of_lt_of_le this (Nat.le_trans h2 (Nat.le_of_eq (by rw [Nat.mul_assoc, Nat.mul_comm 10])))
theorem mayN_small (h : s.all figB = true) (hm : mayN s = true) : numV s < 1000000000 ∧ s ≠ [] ∧ s.length ≤ 9 := by
  have h9 : s.length ≤ 9 ∧ s ≠ [] := by
    unfold mayN at hm
    rw [Bool.or_eq_true, Bool.and_eq_true, Bool.and_eq_true, decide_eq_true_eq, decide_eq_true_eq, decide_eq_true_eq] at hm
    rcases hm with rfl | ⟨⟨h1, h2⟩, _⟩
    · simp
    · exact ⟨h2, h1⟩
  have h1 := numX_lt s 0 h
  have h2 : (10 : Nat) ^ s.length ≤ 10 ^ 9 := Nat.pow_le_pow_right (by omega) h9.1
  refine ⟨?_, h9.2, h9.1⟩
  unfold numV
  omega

/-! ### The landed reading is the document's. -/
theorem take_com (hp : ∀ c ∈ pre, comB c = true) (hn : ∀ c, name.head? = some c → comB c = false) : (pre ++ name).takeWhile comB = pre ∧ (pre ++ name).dropWhile comB = name := by
  induction pre with
  | nil =>
    cases name with
    | nil => exact ⟨rfl, rfl⟩
    | cons c r => simp [hn c rfl]
  | cons c r ih =>
    have := ih fun d hd => hp d (List.mem_cons_of_mem _ hd)
    rw [List.cons_append, List.takeWhile_cons, List.dropWhile_cons, hp c (List.mem_cons_self ..)]
    exact ⟨by rw [if_pos rfl, this.1], by rw [if_pos rfl, this.2]⟩
/-- A text, cut where its figures and commas end. -/
theorem com_cut (s : Tx) : ∃ pre name, s = pre ++ name ∧ (∀ c ∈ pre, comB c = true) ∧ (∀ c, name.head? = some c → comB c = false) ∧ s.takeWhile comB = pre ∧ s.dropWhile comB = name := by
  refine ⟨_, _, (List.takeWhile_append_dropWhile (p := comB) (l := s)).symm, fun c hc => ?_, fun c hc => ?_, rfl, rfl⟩
  · exact List.all_eq_true.1 (List.all_takeWhile (p := comB) (l := s)) c hc
  · have := List.head?_dropWhile_not comB s
    rw [hc] at this
    simpa using this
end
end Go.Proofs.YtdfpifipkchmnaaGreatDoor
/- Proved here, without conditions: rows, and boxes, of different types lie in different blocks. -/
namespace Go.Proofs.YtdfpifipkchmnaaGreatDoor
open Go.RowKit
set_option linter.unusedVariables false

/-- Two rows of different types. -/
theorem rows_apart {w : World} {b1 b2 n m s1 s2 : Nat} {e1 e2 : TypeId} {v u : Value} {xs ys : List Value} (h : w.ownsRow b1 e1 s1 v n xs) (k : w.ownsRow b2 e2 s2 u m ys) (hne : e1 ≠ e2) : ∀ j, v.ownBlock = some j → u.ownBlock ≠ some j := by
  intro j hj e
  rcases h.2 with ⟨rfl, _⟩ | ⟨g, cap, cur, rfl, _, hg, _⟩
  · simp [Value.ownBlock] at hj
  · rcases k.2 with ⟨rfl, _⟩ | ⟨g', cap', cur', rfl, _, hg', _⟩
    · simp [Value.ownBlock] at e
    · simp only [Value.ownBlock, Option.some.injEq] at e hj
      rw [e, ← hj, hg] at hg'
      injection hg' with hg'
      simp at hg'
      exact hne hg'.2
theorem cells_not_row {W : World} {L : Nat} {C : Array Value} {t e : TypeId} (h : W.heap[L]? = some (.cells C t (0, 0))) (hte : t ≠ e) {base size k : Nat} {v : Value} {xs : List Value} (hr : W.ownsRow base e size v k xs) : v.ownBlock ≠ some L := by
  rcases hr.2 with ⟨rfl, _⟩ | ⟨g, cap, cur, rfl, _, hgb, _⟩
  · simp [Value.ownBlock]
  · intro e'
    obtain rfl : g = L := by simpa [Value.ownBlock] using e'
    have := h.symm.trans hgb
    simp at this
    exact hte this.2
theorem box_ne {W : World} {a b : Nat} {C D : Array Value} {s t : TypeId} (h : W.heap[a]? = some (.cells C s (0, 0))) (k : W.heap[b]? = some (.cells D t (0, 0))) (hne : s ≠ t) : a ≠ b := by
  rintro rfl
  have := h.symm.trans k
  simp at this
  exact hne this.2
end Go.Proofs.YtdfpifipkchmnaaGreatDoor
/- Proved here: contracts of the landed package lines: ended, Open (each for strings of at most maxLen bytes); for stages behind the first: NOT beside stage 1's Lines, which has the same names. -/
namespace Go.Proofs.YtdfpifipkchmnaaGreatDoor
open Go.RowKit
set_option linter.unusedVariables false

set_option maxHeartbeats 400000 in
theorem ended_any (s : ByteArray) (w : World) (hs : s.size ≤ maxLen) :
    Calls Tryz.prog 43 #[.string s] w fun e w' => e = .returned (.bool (endedB s.data.toList)) ∧ w = w' := by
  unfold maxLen at hs
  by_cases h : s.toList = []
  · go_enter Tryz.func43, Tryz.ntmps43
    go_wp2
    go_ret
    exact ⟨ret_bool (by rw [data_nil h]; rfl), rfl⟩
  · have h1 := size_pos h
    have h2 : (!s.toList.isEmpty) = true := by simpa using h
    go_enter Tryz.func43, Tryz.ntmps43
    go_wp2
    go_ret
    exact ⟨ret_bool (by rw [last_byte s h1 _ rfl (by omega)]), rfl⟩

set_option maxHeartbeats 400000 in
theorem Open_any (A : Option Addr) (n c B : Nat) (ss : List (List UInt8)) (w : World) (hn : n ≤ maxLen) (hs : ∀ s ∈ ss, s.length ≤ maxLen) (hA : Strs w B A n ss) :
    Calls Tryz.prog 33 #[.slice A n c] w fun e w' => e = .returned (.bool (openB ss)) ∧ w = w' := by
  unfold maxLen at hn
  have hl := hA.len
  by_cases h0 : n = 0
  · subst h0
    have hd : decide ((0 : Int) < ((0 : Nat) : Int)) = false := by decide
    go_enter Tryz.func33, Tryz.ntmps33
    go_wp2
    go_ret
    obtain rfl : ss = [] := List.eq_nil_of_length_eq_zero hl
    exact ⟨rfl, rfl⟩
  · obtain ⟨b, o, t, rfl, _, ht, hc⟩ := hA.at_ (k := n - 1) (by omega)
    have htl : t.length ≤ maxLen := hs t (List.mem_of_getElem? ht)
    have hres : Hid ((!endedB (str t).data.toList) = openB ss) := Lib.hid <| by
      rw [str_data]; unfold openB; rw [List.getLast?_eq_getElem?, hl, ht]
    have h1 : (1 : Int) ≤ n := by omega
    have hd : decide ((0 : Int) < (n : Int)) = true := by simp; omega
    go_enter Tryz.func33, Tryz.ntmps33
    go_wp2_with (go_at_call 43; refine (ended_any (str t) _ (by rw [str_size]; exact htl)).mono ?_; rintro e w' ⟨rfl, rfl⟩)
    go_ret
    exact ⟨ret_bool hres.out, rfl⟩
end Go.Proofs.YtdfpifipkchmnaaGreatDoor
/- Proved here: contracts of the library's internal/stringslite.IndexByte and strings.IndexByte, by the external internal/bytealg.IndexByteString. -/
namespace Go.Proofs.YtdfpifipkchmnaaGreatDoor
open Go.RowKit
set_option linter.unusedVariables false

set_option maxRecDepth 100000 in
set_option maxHeartbeats 400000 in
theorem indexByteL_any (s : ByteArray) (c : Int) (w : World) :
    Calls Tryz.prog 70 #[.string s, .int .u8 c] w fun e w' => e = .returned (.int .i64 (Lib.indexByte s.data.toList c.toNat.toUInt8)) ∧ w' = w := by
  go_enter Tryz.func70, Tryz.ntmps70
  go_wp2
  rw [run_callFunc_extern Tryz.func86 (by kernel_rfl) (by kernel_rfl) (by kernel_rfl) (e := Extern.BytealgIndexByte.indexByte) (by kernel_rfl), Lib.run_indexByteString]
  simp only [Result.andThen]
  rw [Oper.upon_value]
  go_wp2
  go_ret
  exact ⟨rfl, rfl⟩
set_option maxRecDepth 100000 in
set_option maxHeartbeats 400000 in
theorem indexByte_any (s : ByteArray) (c : Int) (w : World) :
    Calls Tryz.prog 57 #[.string s, .int .u8 c] w fun e w' => e = .returned (.int .i64 (Lib.indexByte s.data.toList c.toNat.toUInt8)) ∧ w' = w := by
  go_enter Tryz.func57, Tryz.ntmps57
  go_wp2_with (go_at_call 70; refine (indexByteL_any _ _ _).mono ?_; rintro e w' ⟨rfl, rfl⟩)
  go_ret
  exact ⟨rfl, rfl⟩
end Go.Proofs.YtdfpifipkchmnaaGreatDoor
/- Proved here: contracts of the landed package lines: firstEnd, May (each for strings of at most maxLen bytes); for stages behind the first: NOT beside stage 1's Lines, which has the same names. -/
namespace Go.Proofs.YtdfpifipkchmnaaGreatDoor
open Go.RowKit
set_option linter.unusedVariables false

set_option maxRecDepth 100000 in
set_option maxHeartbeats 400000 in
theorem firstEnd_any (s : ByteArray) (w : World) (hs : s.size ≤ maxLen) :
    Calls Tryz.prog 42 #[.string s] w fun e w' => e = .returned (.int .i64 (fe s.data.toList)) ∧ w = w' := by
  unfold maxLen at hs
  have hf := fe_le s.data.toList
  have hx := fe_index s.data.toList
  have hz : s.data.toList.length = s.size := (Lib.size_eq s).symm
  obtain ⟨i, hi⟩ : ∃ i, i = Lib.indexByte s.data.toList 10 := ⟨_, rfl⟩
  rw [← hi, hz] at hx
  rw [hz] at hf
  have hi' := Lib.hid hi
  have hb : i ≤ s.size ∧ -1 ≤ i := by
    have := Lib.indexByte_ge s.data.toList 10
    split at hx <;> omega
  obtain ⟨f, hf'⟩ : ∃ f, f = fe s.data.toList := ⟨_, rfl⟩
  rw [← hf'] at hx hf ⊢
  by_cases h0 : 0 ≤ i
  · rw [if_pos h0] at hx
    have hib : i + 1 ≤ s.size := by omega
    have hh := Lib.hid hx
    clear hi hx hf'
    go_enter Tryz.func42, Tryz.ntmps42
    go_wp2_with (go_at_call 57; refine (indexByte_any _ _ _).mono ?_; rintro e w' ⟨rfl, rfl⟩; rw [show Lib.indexByte s.data.toList (10 : Int).toNat.toUInt8 = i from hi'.out.symm])
    go_ret
    exact ⟨ret_int (by rw [hh.out]), rfl⟩
  · rw [if_neg h0] at hx
    have hh := Lib.hid hx
    clear hi hx hf'
    go_enter Tryz.func42, Tryz.ntmps42
    go_wp2_with (go_at_call 57; refine (indexByte_any _ _ _).mono ?_; rintro e w' ⟨rfl, rfl⟩; rw [show Lib.indexByte s.data.toList (10 : Int).toNat.toUInt8 = i from hi'.out.symm])
    go_ret
    exact ⟨ret_int (by rw [hh.out]), rfl⟩
section
variable {ss : List (List UInt8)} {k n : Nat} {t : List UInt8}
theorem may_a (hm : mayB ss = mayB (ss.drop k)) (hd : ss.drop k = t :: ss.drop (k + 1)) (h : (str t).toList = []) : false = mayB ss := by
  have := data_nil h
  rw [str_data] at this
  subst this
  rw [hm, hd]; rfl
theorem may_b (hm : mayB ss = mayB (ss.drop k)) (hd : ss.drop k = t :: ss.drop (k + 1)) (h : (str t).toList.isEmpty = true ∨ fe (str t).data.toList < (str t).size) : false = mayB ss := by
  rw [ByteArray.toList_eq, str_data, str_size] at h
  rw [hm, hd, mayB]
  rcases h with h | h <;> simp [h]
theorem may_c (hl : ss.length = n) (hm : mayB ss = mayB (ss.drop k)) (hd : ss.drop k = t :: ss.drop (k + 1)) (h2 : (k : Int) < (n : Int) - 1) (h : (!endedB (str t).data.toList) = true) : false = mayB ss := by
  rw [str_data] at h
  have h' : endedB t = false := by simpa using h
  have hne : (ss.drop (k + 1)).isEmpty = false := by
    rw [Bool.eq_false_iff, ne_eq, List.isEmpty_iff]
    intro e
    have := congrArg List.length e
    rw [List.length_drop] at this
    simp at this
    omega
  rw [hm, hd, mayB, h', hne]
  simp
theorem may_go (hm : mayB ss = mayB (ss.drop k)) (hd : ss.drop k = t :: ss.drop (k + 1)) (h1 : (str t).toList.isEmpty = false ∧ ¬ fe (str t).data.toList < (str t).size) (he : (ss.drop (k + 1)).isEmpty = true ∨ endedB t = true) : mayB ss = mayB (ss.drop (k + 1)) := by
  rw [ByteArray.toList_eq, str_data, str_size] at h1
  rw [hm, hd, mayB]
  rcases he with he | he <;> simp [h1.1, h1.2, he]
end

set_option maxRecDepth 100000 in
set_option maxHeartbeats 400000 in
theorem lMay_any (A : Option Addr) (n c B : Nat) (ss : List (List UInt8)) (w : World) (hn : n ≤ maxLen) (hs : ∀ s ∈ ss, s.length ≤ maxLen) (hA : Strs w B A n ss) :
    Calls Tryz.prog 32 #[.slice A n c] w fun e w' => e = .returned (.bool (mayB ss)) ∧ w = w' := by
  unfold maxLen at hn
  have hl := hA.len
  go_enter Tryz.func32, Tryz.ntmps32
  go_wp2
  go_loop [11] (fun i => ∃ k : Nat, k ≤ n ∧ i = .int .i64 k ∧ Hid (mayB ss = mayB (ss.drop k))) (fun i => n - (intOf i).toNat)
  case atStart => exact ⟨0, Nat.zero_le _, rfl, Lib.hid rfl⟩
  case round =>
    obtain ⟨k, hk, rfl, hm⟩ := hrel
    by_cases hlt : k < n
    · obtain ⟨b, o, t, rfl, _, ht, hc⟩ := hA.at_ (k := k) hlt
      have htl : t.length ≤ maxLen := hs t (List.mem_of_getElem? ht)
      have hd := Lib.hid (drop_at ht)
      go_wp2_with (first
        | (go_at_call 42; refine (firstEnd_any (str t) _ (by rw [str_size]; exact htl)).mono ?_; rintro e w' ⟨rfl, rfl⟩)
        | (go_at_call 43; refine (ended_any (str t) _ (by rw [str_size]; exact htl)).mono ?_; rintro e w' ⟨rfl, rfl⟩))
      · go_ret; exact ⟨ret_bool (may_a hm.out hd.out ‹_›), rfl⟩
      · go_ret; exact ⟨ret_bool (may_b hm.out hd.out ‹_›), rfl⟩
      · go_ret; exact ⟨ret_bool (may_c hl hm.out hd.out ‹_› ‹_›), rfl⟩
      · have h1 : (str t).toList.isEmpty = false ∧ ¬fe (str t).data.toList < (str t).size := by assumption
        have h2 : (!endedB (str t).data.toList) = false := by assumption
        go_round
        case rel => exact ⟨k + 1, by omega, by go_num, Lib.hid (may_go hm.out hd.out h1 (.inr (by rw [str_data] at h2; simpa using h2)))⟩
        case measure => simp [intOf]; omega
      · have h1 : (str t).toList.isEmpty = false ∧ ¬fe (str t).data.toList < (str t).size := by assumption
        go_round
        case rel => exact ⟨k + 1, by omega, by go_num, Lib.hid (may_go hm.out hd.out h1 (.inl (by rw [List.drop_of_length_le (by omega)]; rfl)))⟩
        case measure => simp [intOf]; omega
    · go_wp2
      go_ret
      have : k = n := by omega
      subst this
      exact ⟨ret_bool (by rw [hm.out, List.drop_of_length_le (by omega)]; rfl), rfl⟩
end Go.Proofs.YtdfpifipkchmnaaGreatDoor
