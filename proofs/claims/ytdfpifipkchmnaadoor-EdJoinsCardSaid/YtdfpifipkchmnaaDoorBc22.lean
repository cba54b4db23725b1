/- Proved here: texts joined: EdLawM, EdPl, TxOC. -/
import Derived.Test.YtdfpifipkchmnaaDoorBc17
import Derived.Test.YtdfpifipkchmnaaDoorBc20
import Derived.Test.YtdfpifipkchmnaaDoorBc21
import Derived.Lib.Atoi
import Derived.Lib.SlTrimSet
import Derived.Lib.Strings
import Derived.Laws.OwnMore
import Derived.RangeFuncBox
/- Proved here: what the statement EdMay says, by the contract of ed.Run. -/
namespace Go.Proofs.YtdfpifipkchmnaaDoor
open Go.RowKit
set_option linter.unusedVariables false
set_option maxRecDepth 100000

section
variable (H : EdRunOk)
include H
set_option maxHeartbeats 8000000 in
theorem EdMay_walk (As : Option Addr) (ns cs : Nat) (script : Txs) (A : Option Addr) (n c : Nat) (file : Txs) (w : World) (h0 : TxR w w.heap.size (As, ns, cs) script) (h1 : TxR w w.heap.size (A, n, c) file) :
    Calls Tryd.prog 3 #[.slice As ns cs, .slice A n c] w fun e w' => e = .returned (.bool true) ∧ Below w.heap.size w w' := by
  have haw := Lib.hid (edAwake_any H w)
  obtain ⟨fm, hfm⟩ : ∃ fm, fewB script 30 = fm := ⟨_, rfl⟩
  obtain ⟨fn, hfn⟩ : ∃ fm, fewB file 20 = fm := ⟨_, rfl⟩
  have hF := Lib.hid (few_call As ns cs 30 script w (by decide) h0 fm hfm)
  have hF2 := Lib.hid (few_call A n c 20 file w (by decide) h1 fn hfn)
  have tok1 := trivial
  by_cases hff : fm = true ∧ fn = true
  rotate_left
  · clear h0 h1 hfm hfn H
    cases fm <;> cases fn
    rotate_left 3
    · exact absurd ⟨rfl, rfl⟩ hff
    all_goals
      clear hff
      go_enter Tryd.func3, Tryd.ntmps3
      go_wp2_with (first
        | (go_at_call 5; refine haw.out.mono ?_; rintro e w1 ⟨rfl, hb1⟩; have hB1 := Lib.hid hb1; clear hb1)
        | (go_at_call 6; have _t := tok1; refine (hF.out _ hB1.out).mono ?_; rintro e w2 ⟨rfl, hww⟩; have hws := hww.symm; clear hww; subst hws; have tok2 := trivial; clear tok1)
        | (go_at_call 6; have _t := tok2; refine (hF2.out _ hB1.out).mono ?_; rintro e w2 ⟨rfl, hww⟩; have hws := hww.symm; clear hww; subst hws; clear tok2))
      go_ret
      exact ⟨rfl, hB1.out⟩
  obtain ⟨rfl, rfl⟩ := hff
  have x0 := few_E hfm (by decide)
  have x1 := few_E hfn (by decide)
  have x2 := (fewK hfm (by decide)).1
  have x3 := fewK hfn (by decide)
  have hns : script.length = ns := h0.2.2.len
  obtain ⟨F, S, Ln, E, hR⟩ : ∃ F S Ln E, edR script file = (F, S, Ln, E) := ⟨_, _, _, _, rfl⟩
  have hC1 := Lib.hid (fun (W : World) (hW : Below w.heap.size w W) => hR ▸ H As ns cs script A n c file W x0 x1 (h0.up hW) (h1.up hW))
  obtain ⟨m1, m2⟩ := edR_may hR
  by_cases hE : E = 0
  · subst hE
    obtain ⟨rfl, m3, m4⟩ := m2 rfl
    have hFs : ∀ s ∈ F, s.length ≤ maxLen := fun s hs => by
      have := (edR_up (X := 100) x3.2 (fewK hfm (by decide)).2 hR).2 s hs
      unfold maxLen
      omega
    have hM : Hid (∀ A n c W, TxR W W.heap.size (A, n, c) F → Calls Tryd.prog 8 #[.slice A n c] W fun e w' => e = .returned (.bool true) ∧ W = w') := Lib.hid (fun A n c W h => by rw [← m3]; exact rMayB_any A n c W.heap.size F W (Nat.le_trans h.1 h.2.1) hFs h.2.2)
    have hO : Hid (∀ A n c W, TxR W W.heap.size (A, n, c) F → Calls Tryd.prog 9 #[.slice A n c] W fun e w' => e = .returned (.bool false) ∧ W = w') := Lib.hid (fun A n c W h => by rw [← m4]; exact rOpen_any A n c W.heap.size F W (Nat.le_trans h.1 h.2.1) hFs h.2.2)
    clear h0 h1 hfm hfn H x0 x1 hR m1 m2 m3 m4 hFs
    go_enter Tryd.func3, Tryd.ntmps3
    go_wp2_with (first
      | (go_at_call 5; refine haw.out.mono ?_; rintro e w1 ⟨rfl, hb1⟩; have hB1 := Lib.hid hb1; clear hb1)
      | (go_at_call 6; have _t := tok1; refine (hF.out _ hB1.out).mono ?_; rintro e w2 ⟨rfl, hww⟩; have hws := hww.symm; clear hww; subst hws; have tok2 := trivial; clear tok1)
      | (go_at_call 6; have _t := tok2; refine (hF2.out _ hB1.out).mono ?_; rintro e w2 ⟨rfl, hww⟩; have hws := hww.symm; clear hww; subst hws; clear tok2)
      | (go_at_call 7; refine (hC1.out _ hB1.out).mono ?_; rintro e w3 ⟨A3, n3, c3, rfl, p3, q3⟩; have hP3 := Lib.hid p3; have hB3 := Lib.hid (hB1.out.trans (q3.mono hB1.out.size)); clear p3 q3)
      | (go_at_call 8; refine (hM.out _ _ _ _ hP3.out).mono ?_; rintro e w4 ⟨rfl, hww⟩; subst hww)
      | (go_at_call 9; refine (hO.out _ _ _ _ hP3.out).mono ?_; rintro e w4 ⟨rfl, hww⟩; subst hww))
    go_ret
    exact ⟨rfl, hB3.out⟩
  · obtain ⟨rfl, rfl, m3, m4⟩ := m1 hE
    have t0 : ((E : Int) != 0) = true := by simp; omega
    have t1 : (Ln : Int) ≤ (ns : Int) + 1 := by omega
    have t2 : ((Ln : Int) == 0) = ((E : Int) == 1) := by
      rw [Bool.eq_iff_iff, beq_iff_eq, beq_iff_eq]
      omega
    obtain ⟨K, hK⟩ : ∃ K, ns + 1 = K := ⟨_, rfl⟩
    have e9 : (ns : Int) + 1 = (K : Int) := by omega
    have e8 : IntKind.i64.wrap (K : Int) = (K : Int) := IntWalk.i64_in _ (by omega)
    have t3 : (Ln : Int) ≤ (K : Int) := by omega
    obtain ⟨tb, htb⟩ : ∃ tb, ((E : Int) == 1) = tb := ⟨_, rfl⟩
    rw [htb] at t2
    clear h0 h1 hfm hfn H x0 x1 hR m1 m2 m3 m4 hE hK t1 x2 x3 hns
    cases tb
    all_goals
      go_enter Tryd.func3, Tryd.ntmps3
      go_wp2_with (first
        | (go_at_call 5; refine haw.out.mono ?_; rintro e w1 ⟨rfl, hb1⟩; have hB1 := Lib.hid hb1; clear hb1)
        | (go_at_call 6; have _t := tok1; refine (hF.out _ hB1.out).mono ?_; rintro e w2 ⟨rfl, hww⟩; have hws := hww.symm; clear hww; subst hws; have tok2 := trivial; clear tok1)
        | (go_at_call 6; have _t := tok2; refine (hF2.out _ hB1.out).mono ?_; rintro e w2 ⟨rfl, hww⟩; have hws := hww.symm; clear hww; subst hws; clear tok2)
        | (go_at_call 7; refine (hC1.out _ hB1.out).mono ?_; rintro e w3 ⟨A3, n3, c3, rfl, p3, q3⟩; have hn3 : n3 = 0 := (by have := p3.2.2.len; simpa using this.symm); subst hn3; have hB3 := Lib.hid (hB1.out.trans (q3.mono hB1.out.size)); clear p3 q3))
      go_ret
      exact ⟨rfl, hB3.out⟩
end
end Go.Proofs.YtdfpifipkchmnaaDoor
/- Proved here, without a word of the program: how the landed editor reads a command, and that it is as the document has it. -/
namespace Go.Proofs.YtdfpifipkchmnaaDoor
set_option linter.unusedVariables false

/-- Parts between commas. -/
def splitC : Tx → List Tx
  | [] => [[]]
  | c :: r => if c = 44 then [] :: splitC r else match splitC r with
    | [] => [[c]]
    | p :: ps => (c :: p) :: ps
/-- May a text of figures be a number? -/
def mayN (s : Tx) : Bool := decide (s = [48]) || (decide (s ≠ []) && decide (s.length ≤ 9) && decide (s.head? ≠ some 48))
/-- The numbers ahead of a command's name. -/
def cutN (pre : Tx) : Option (List Nat) := if pre = [] then some [] else if (splitC pre).all mayN then some ((splitC pre).map numV) else none
def subN : Tx := [115, 47, 94, 92, 46, 47, 47]
/-- What a name stands for; 0: it is none. -/
def nameW (name : Tx) : UInt8 := if name = [97] then 97 else if name = [99] then 99 else if name = [100] then 100 else if name = subN then 115 else if name = [119] then 119 else if name = [113] then 113 else 0
/-- How many numbers it takes. -/
def numsB (what : UInt8) (n : Nat) : Bool := if what = 97 then decide (n = 1) else if what = 119 ∨ what = 113 then decide (n = 0) else decide (n = 1 ∨ n = 2)

section
variable {s t pre name : Tx} {what : UInt8} {l : List Nat} {m n k : Nat}
theorem splitC_ne : ∀ (s : Tx), splitC s ≠ []
  | [] => by simp [splitC]
  | c :: r => by
    unfold splitC
    split
    · simp
    · split <;> simp
theorem splitC_none : ∀ {s : Tx}, (44 : UInt8) ∉ s → splitC s = [s]
  | [], _ => rfl
  | c :: r, h => by
    rw [splitC, if_neg (fun e => h (by rw [e]; exact List.mem_cons_self ..)), splitC_none (s := r) fun hr => h (List.mem_cons_of_mem _ hr)]
theorem splitC_at : ∀ {a : Tx} (b : Tx), (44 : UInt8) ∉ a → splitC (a ++ 44 :: b) = a :: splitC b
  | [], b, _ => by simp [splitC]
  | c :: a, b, h => by
    rw [List.cons_append, splitC, if_neg (fun e => h (by rw [e]; exact List.mem_cons_self ..)), splitC_at b fun hr => h (List.mem_cons_of_mem _ hr)]
/-- A text with commas, cut at the first one. -/
theorem comma_cut : ∀ {s : Tx}, (44 : UInt8) ∈ s → ∃ a b, s = a ++ 44 :: b ∧ (44 : UInt8) ∉ a
  | [], h => by cases h
  | c :: r, h => by
    by_cases e : c = 44
    · exact ⟨[], r, by rw [e]; rfl, by simp⟩
    · rcases List.mem_cons.1 h with h | h
      · exact absurd h.symm e
      · obtain ⟨a, b, rfl, hn⟩ := comma_cut h
        exact ⟨c :: a, b, rfl, fun hm => (List.mem_cons.1 hm).elim (fun h => e h.symm) hn⟩
theorem splitC_mem : ∀ {s p : Tx}, p ∈ splitC s → ∀ c ∈ p, c ∈ s ∧ c ≠ 44
  | [], p, h, c, hc => by
    simp only [splitC, List.mem_singleton] at h
    subst h
    cases hc
  | d :: r, p, h, c, hc => by
    unfold splitC at h
    split at h
    · rcases List.mem_cons.1 h with h | h
      · subst h; cases hc
      · exact ⟨List.mem_cons_of_mem _ (splitC_mem h c hc).1, (splitC_mem h c hc).2⟩
    · rename_i hd
      split at h
      · rename_i he
        exact absurd he (splitC_ne r)
      · rename_i q qs he
        rcases List.mem_cons.1 h with h | h
        · subst h
          rcases List.mem_cons.1 hc with hc | hc
          · subst hc
            exact ⟨List.mem_cons_self .., hd⟩
          · have := splitC_mem (s := r) (p := q) (by rw [he]; exact List.mem_cons_self ..) c hc
            exact ⟨List.mem_cons_of_mem _ this.1, this.2⟩
        · have := splitC_mem (s := r) (p := p) (by rw [he]; exact List.mem_cons_of_mem _ h) c hc
          exact ⟨List.mem_cons_of_mem _ this.1, this.2⟩
theorem splitC_len : ∀ {s p : Tx}, p ∈ splitC s → p.length ≤ s.length
  | [], p, h => by
    simp only [splitC, List.mem_singleton] at h
    subst h
    simp
  | d :: r, p, h => by
    unfold splitC at h
    split at h
    · rcases List.mem_cons.1 h with h | h
      · subst h; simp
      · have := splitC_len h; simp only [List.length_cons]; omega
    · split at h
      · rename_i he
        exact absurd he (splitC_ne r)
      · rename_i q qs he
        rcases List.mem_cons.1 h with h | h
        · subst h
          have := splitC_len (s := r) (p := q) (by rw [he]; exact List.mem_cons_self ..)
          simp only [List.length_cons]; omega
        · have := splitC_len (s := r) (p := p) (by rw [he]; exact List.mem_cons_of_mem _ h)
          simp only [List.length_cons]; omega
theorem splitC_cnt : ∀ (s : Tx), (splitC s).length ≤ s.length + 1
  | [] => by simp [splitC]
  | d :: r => by
    have := splitC_cnt r
    unfold splitC
    split
    · simp only [List.length_cons]; omega
    · split
      · simp
      · rename_i q qs he
        rw [he] at this
        simp only [List.length_cons] at this ⊢
        omega
theorem com_fig {c : UInt8} (h : comB c = true) (h2 : c ≠ 44) : figB c = true := by
  unfold comB at h
  rw [Bool.or_eq_true] at h
  exact h.elim id fun h => absurd (by simpa using h) h2
theorem part_figs (h : ∀ c ∈ pre, comB c = true) {p : Tx} (hp : p ∈ splitC pre) : p.all figB = true := by
  rw [List.all_eq_true]
  intro c hc
  have := splitC_mem hp c hc
  exact com_fig (h c this.1) this.2
/-- A part is a number just if it may be one. -/
theorem mayN_num (h : s.all figB = true) : (mayN s = true → numE s = (numV s : Nat)) ∧ (mayN s = false → numE s = -1) := by
  unfold mayN numE
  constructor
  · intro hm
    rw [Bool.or_eq_true, Bool.and_eq_true, Bool.and_eq_true, decide_eq_true_eq, decide_eq_true_eq, decide_eq_true_eq, decide_eq_true_eq] at hm
    rw [if_neg]
    rintro (h0 | h0 | h0 | h0)
    · rcases hm with rfl | ⟨⟨h1, _⟩, _⟩
      · cases h0
      · exact h1 (List.eq_nil_of_length_eq_zero h0)
    · rcases hm with rfl | ⟨⟨_, h1⟩, _⟩
      · simp at h0
      · omega
    · rcases hm with rfl | ⟨_, h1⟩
      · simp at h0
      · exact h1 h0.1
    · rw [h] at h0; cases h0
  · intro hm
    rw [if_pos]
    rw [Bool.or_eq_false_iff, decide_eq_false_iff_not] at hm
    obtain ⟨h1, h2⟩ := hm
    by_cases h3 : s = []
    · exact .inl (by rw [h3]; rfl)
    · by_cases h4 : s.length ≤ 9
      · rw [decide_eq_true h3, decide_eq_true h4, Bool.and_true, Bool.true_and, decide_eq_false_iff_not, ne_eq, Decidable.not_not] at h2
        refine .inr (.inr (.inl ⟨h2, ?_⟩))
        cases s with
        | nil => exact absurd rfl h3
        | cons c r =>
          cases r with
          | nil =>
            simp at h2
            subst h2
            exact absurd rfl h1
          | cons d r => simp
      · exact .inr (.inl (by omega))
theorem numV_fold : ∀ (s : Tx) (a : Nat), s.all figB = true → Lib.decFrom a s = some (s.foldl (fun n c => 10 * n + (c.toNat - 48)) a)
  | [], a, _ => rfl
  | c :: r, a, h => by
    rw [List.all_cons, Bool.and_eq_true] at h
    have hc := h.1
    unfold figB at hc
    rw [Bool.and_eq_true, decide_eq_true_eq, decide_eq_true_eq] at hc
    rw [Lib.decFrom, Lib.digitVal, if_pos ⟨hc.1, hc.2⟩]
    simp only [List.foldl_cons]
    rw [numV_fold r _ h.2, Nat.mul_comm a 10]
theorem atoi_num (h : s.all figB = true) (h0 : s ≠ []) : Lib.atoi s = some ((numV s : Nat) : Int) := by
  cases s with
  | nil => exact absurd rfl h0
  | cons c r =>
    have hc := (List.all_eq_true.1 h) c (List.mem_cons_self ..)
    unfold figB at hc
    rw [Bool.and_eq_true, decide_eq_true_eq, decide_eq_true_eq] at hc
    have n1 : (c == 45) = false := by
      rw [beq_eq_false_iff_ne]; rintro rfl; exact absurd hc.1 (by decide)
    have n2 : (c == 43) = false := by
      rw [beq_eq_false_iff_ne]; rintro rfl; exact absurd hc.1 (by decide)
    simp only [Lib.atoi, n1, n2, Bool.false_eq_true, if_false]
    unfold Lib.decNat
    rw [List.isEmpty_cons]
    simp only [Bool.false_eq_true, if_false]
    rw [numV_fold _ _ h]
    rfl
theorem numX_lt : ∀ (s : Tx) (a : Nat), s.all figB = true → s.foldl (fun n c => 10 * n + (c.toNat - 48)) a < (a + 1) * 10 ^ s.length
  | [], a, _ => by simp
  | c :: r, a, h => by
    rw [List.all_cons, Bool.and_eq_true] at h
    have hc := h.1
    unfold figB at hc
    rw [Bool.and_eq_true, decide_eq_true_eq, decide_eq_true_eq] at hc
    simp only [List.foldl_cons, List.length_cons, Nat.pow_succ]
    have := numX_lt r (10 * a + (c.toNat - 48)) h.2
    have h2 : (10 * a + (c.toNat - 48) + 1) * 10 ^ r.length ≤ (a + 1) * 10 * 10 ^ r.length := Nat.mul_le_mul_right _ (by omega)
    exact Nat.lt_of_lt_of_le this (Nat.le_trans h2 (Nat.le_of_eq (by rw [Nat.mul_assoc, Nat.mul_comm 10])))
theorem mayN_small (h : s.all figB = true) (hm : mayN s = true) : numV s < 1000000000 ∧ s ≠ [] ∧ s.length ≤ 9 := by
  have h9 : s.length ≤ 9 ∧ s ≠ [] := by
    unfold mayN at hm
    rw [Bool.or_eq_true, Bool.and_eq_true, Bool.and_eq_true, decide_eq_true_eq, decide_eq_true_eq, decide_eq_true_eq] at hm
    rcases hm with rfl | ⟨⟨h1, h2⟩, _⟩
    · simp
    · exact ⟨h2, h1⟩
  have h1 := numX_lt s 0 h
  have h2 : (10 : Nat) ^ s.length ≤ 10 ^ 9 := Nat.pow_le_pow_right (by omega) h9.1
  refine ⟨?_, h9.2, h9.1⟩
  unfold numV
  omega

/-! ### The landed reading is the document's. -/
theorem take_com (hp : ∀ c ∈ pre, comB c = true) (hn : ∀ c, name.head? = some c → comB c = false) : (pre ++ name).takeWhile comB = pre ∧ (pre ++ name).dropWhile comB = name := by
  induction pre with
  | nil =>
    cases name with
    | nil => exact ⟨rfl, rfl⟩
    | cons c r => simp [hn c rfl]
  | cons c r ih =>
    have := ih fun d hd => hp d (List.mem_cons_of_mem _ hd)
    rw [List.cons_append, List.takeWhile_cons, List.dropWhile_cons, hp c (List.mem_cons_self ..)]
    exact ⟨by rw [if_pos rfl, this.1], by rw [if_pos rfl, this.2]⟩
/-- A text, cut where its figures and commas end. -/
theorem com_cut (s : Tx) : ∃ pre name, s = pre ++ name ∧ (∀ c ∈ pre, comB c = true) ∧ (∀ c, name.head? = some c → comB c = false) ∧ s.takeWhile comB = pre ∧ s.dropWhile comB = name := by
  refine ⟨_, _, (List.takeWhile_append_dropWhile (p := comB) (l := s)).symm, fun c hc => ?_, fun c hc => ?_, rfl, rfl⟩
  · exact List.all_eq_true.1 (List.all_takeWhile (p := comB) (l := s)) c hc
  · have := List.head?_dropWhile_not comB s
    rw [hc] at this
    simpa using this
end
end Go.Proofs.YtdfpifipkchmnaaDoor
/- Proved here: texts that a call has made, behind another call. -/
namespace Go.Proofs.YtdfpifipkchmnaaDoor
open Go.RowKit
set_option linter.unusedVariables false
set_option maxRecDepth 100000

/-- Texts that a call has made, told. -/
def OwnT (w w' : World) (e : Ending) (xs : Txs) : Prop := ∃ v, e = .returned v ∧ TxO w w' v xs
theorem TxO.call {w wr w1 : World} {v : Value} {xs : Txs} (h : TxO w wr v xs) (hb : Below wr.heap.size wr w1) : TxO w w1 v xs :=
  ⟨ownsRow_kept h.own fun k e => hb.block k (h.own.lt k e).2, h.below.trans (hb.mono h.below.size)⟩
theorem own_lower {w : World} {b1 b2 n : Nat} {e : TypeId} {size : Nat} {v : Value} {xs : List Value} (h : w.ownsRow b1 e size v n xs) (hb : b2 ≤ b1) : w.ownsRow b2 e size v n xs := by
  refine ⟨h.1, ?_⟩
  rcases h.2 with h | ⟨g, cap, cur, e1, h2, r⟩
  · exact .inl h
  · exact .inr ⟨g, cap, cur, e1, Nat.le_trans hb h2, r⟩
theorem TxO.lit (w : World) (s : Tx) : TxO w (w.alloc (.cells #[.string (str s)] 9)) (.slice (some ⟨w.heap.size, 0, none⟩) 1 1) [s] :=
  ⟨World.ownsRow_lit w #[.string (str s)] 1 (Nat.le_refl _) (by decide) rfl, below_alloc (Below.refl _ _) _⟩
end Go.Proofs.YtdfpifipkchmnaaDoor
