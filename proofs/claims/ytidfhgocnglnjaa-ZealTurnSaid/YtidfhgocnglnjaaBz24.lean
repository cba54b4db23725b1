/- Proved here: texts joined: ZlPl, EqT, AnyF. -/
import Derived.Test.YtidfhgocnglnjaaBz05
import Derived.Test.YtidfhgocnglnjaaBz08
import Derived.Test.YtidfhgocnglnjaaBz09
import Derived.RangeFuncBox
/- Proved here, without a word of the program: how many lines all begin, and end, with, asked line by line as far as the shortest goes. -/
namespace Go.Proofs.Ytidfhgocnglnjaa
set_option linter.unusedVariables false

/-- A list's line, from its begin; from its end. -/
def lineB (d : Txs) (i : Nat) : Tx := (d[i]?).getD []
def lineE (d : Txs) (i : Nat) : Tx := (d[d.length - 1 - i]?).getD []
/-- How far all are the same, as it is told. -/
def AlikeN (g : Txs → Nat → Tx) (f : Txs) (ds : List Txs) (most r : Nat) : Prop := r ≤ most ∧ (∀ i, i < r → ∀ d ∈ ds, g d i = g f i) ∧ (r < most → ∃ d ∈ ds, g d r ≠ g f r)
/-- The length of the shortest. -/
def MinL (ds : List Txs) (m : Nat) : Prop := (∀ d ∈ ds, m ≤ d.length) ∧ ∃ d ∈ ds, d.length = m
section
variable {f : Txs} {ds : List Txs} {m a b : Nat}
theorem lineB_at {d : Txs} {i : Nat} {t : Tx} (h : d[i]? = some t) : lineB d i = t := by unfold lineB; rw [h]; rfl
theorem lineE_at {d : Txs} {i : Nat} {t : Tx} (h : d[d.length - 1 - i]? = some t) : lineE d i = t := by unfold lineE; rw [h]; rfl
theorem get_of_getD {d e : Txs} {i j : Nat} (hi : i < d.length) (hj : j < e.length) (h : (d[i]?).getD [] = (e[j]?).getD []) : d[i]? = e[j]? := by
  rw [List.getElem?_eq_getElem hi, List.getElem?_eq_getElem hj] at h ⊢
  simpa using h
theorem alike_beg (hf : f ∈ ds) (hm : MinL ds m) (h : AlikeN lineB f ds m a) : begN f ds = a := by
  obtain ⟨h1, d0, hd0, hl0⟩ := hm
  obtain ⟨k1, k2, k3⟩ := h
  refine begN_is hf (begB_iff.2 fun d hd => ⟨by have := h1 d hd; omega, ?_⟩) ?_
  · apply List.ext_getElem?
    intro i
    rw [List.getElem?_take, List.getElem?_take]
    split
    · rename_i hi
      exact get_of_getD (by have := h1 d hd; omega) (by have := h1 f hf; omega) (k2 i hi d hd)
    · rfl
  · cases hb : begB f ds (a + 1) with
    | false => rfl
    | true =>
      rcases Nat.lt_or_ge a m with hlt | hge
      · obtain ⟨d, hd, hne⟩ := k3 hlt
        have := (begB_iff.1 hb d hd).2
        have := congrArg (fun l => l[a]?) this
        simp only [List.getElem?_take, Nat.lt_succ_self, if_true] at this
        exact absurd (by unfold lineB; rw [this]) hne
      · have := (begB_iff.1 hb d0 hd0).1
        omega
theorem alike_tail (hf : f ∈ ds) (hm : MinL ds m) (ha : a ≤ m) (h : AlikeN lineE f ds (m - a) b) : tailN (f.drop a) (ds.map fun d => d.drop a) = b := by
  obtain ⟨h1, d0, hd0, hl0⟩ := hm
  obtain ⟨k1, k2, k3⟩ := h
  have hfm : f.drop a ∈ ds.map fun d => d.drop a := List.mem_map.2 ⟨f, hf, rfl⟩
  have hfl := h1 f hf
  refine tailN_is hfm (tailB_iff.2 fun e he => ?_) ?_
  · obtain ⟨d, hd, rfl⟩ := List.mem_map.1 he
    have hdl := h1 d hd
    refine ⟨by rw [List.length_drop]; omega, ?_⟩
    rw [List.drop_drop, List.drop_drop, List.length_drop, List.length_drop]
    apply List.ext_getElem?
    intro i
    rw [List.getElem?_drop, List.getElem?_drop]
    rcases Nat.lt_or_ge i b with hi | hi
    · have := k2 (b - 1 - i) (by omega) d hd
      unfold lineE at this
      have := get_of_getD (by omega) (by omega) this
      rw [show d.length - 1 - (b - 1 - i) = a + (d.length - a - b) + i by omega, show f.length - 1 - (b - 1 - i) = a + (f.length - a - b) + i by omega] at this
      exact this
    · rw [List.getElem?_eq_none (by omega), List.getElem?_eq_none (by omega)]
  · cases hb : tailB (f.drop a) (ds.map fun d => d.drop a) (b + 1) with
    | false => rfl
    | true =>
      rcases Nat.lt_or_ge b (m - a) with hlt | hge
      · obtain ⟨d, hd, hne⟩ := k3 hlt
        have hdl := h1 d hd
        have := (tailB_iff.1 hb (d.drop a) (List.mem_map.2 ⟨d, hd, rfl⟩)).2
        have := congrArg (fun l => l[0]?) this
        simp only [List.getElem?_drop, List.length_drop] at this
        rw [show a + (d.length - a - (b + 1) + 0) = d.length - 1 - b by omega, show a + (f.length - a - (b + 1) + 0) = f.length - 1 - b by omega] at this
        exact absurd (by unfold lineE; rw [this]) hne
      · have := (tailB_iff.1 hb (d0.drop a) (List.mem_map.2 ⟨d0, hd0, rfl⟩)).1
        rw [List.length_drop] at this
        omega
/-- What trimL is, where not all sides are the same. -/
theorem trimL_is {base : Txs} (hf : f ∈ ds) (hm : MinL ds m) (ha : AlikeN lineB f ds m a) (hb : AlikeN lineE f ds (m - a) b) (hne : ¬ ∀ d ∈ ds, d = f) :
    trimL base f ds = [tPc (f.take a), cPc base (ds.map (leftD a b)), tPc (f.drop (f.length - b))] := by
  have e1 := alike_beg hf hm ha
  have e2 := alike_tail hf hm ha.1 hb
  unfold trimL
  dsimp only
  rw [if_neg (fun h => hne ((all_same hf).1 h)), e1, e2]
theorem trimL_same {base : Txs} (hf : f ∈ ds) (h : ∀ d ∈ ds, d = f) : trimL base f ds = [tPc f] := by
  unfold trimL
  dsimp only
  rw [if_pos ((all_same hf).2 h)]
/-- All is within each side. -/
theorem alike_within (hm : MinL ds m) (ha : AlikeN lineB f ds m a) (hb : AlikeN lineE f ds (m - a) b) : ∀ d ∈ ds, a + b ≤ d.length := fun d hd => by
  have h1 := hm.1 d hd
  have h2 := ha.1
  have h3 := hb.1
  omega
end
end Go.Proofs.Ytidfhgocnglnjaa
/- Proved here: the contract of slices.Equal over texts. -/
namespace Go.Proofs.Ytidfhgocnglnjaa
open Go.RowKit
set_option linter.unusedVariables false

set_option maxRecDepth 100000 in
set_option maxHeartbeats 400000 in
theorem equal_any (A A' : Option Addr) (n n' c c' B B' : Nat) (ss ss' : Txs) (w : World) (hn : n ≤ maxLen) (hn' : n' ≤ maxLen) (hA : Strs w B A n ss) (hA' : Strs w B' A' n' ss') :
    Calls Try.prog 40 #[.slice A n c, .slice A' n' c'] w fun e w' => e = .returned (.bool (decide (ss = ss'))) ∧ ∃ k, w' = w.drewN k := by
  unfold maxLen at hn hn'
  have hl := hA.len
  have hl' := hA'.len
  by_cases hnn : n = n'
  · subst hnn
    go_enter Try.func40, Try.ntmps40
    go_wp2
    go_loopw [5, 13] (fun _ i wr => ∃ k : Nat, k ≤ n ∧ i = .int .i64 k ∧ Hid (ss.take k = ss'.take k) ∧ ∃ q, wr = w.drewN q) (fun _ i _ => n - (intOf i).toNat)
    case atStart => exact ⟨0, Nat.zero_le _, rfl, Lib.hid rfl, 0, rfl⟩
    case round =>
      obtain ⟨k, hk, rfl, hq, q, rfl⟩ := hrel
      by_cases hlt : k < n
      · obtain ⟨b, o, t, rfl, hb, ht, hc0⟩ := hA.at_ (k := k) hlt
        obtain ⟨b', o', t', rfl, hb', ht', hc0'⟩ := hA'.at_ (k := k) hlt
        have hi1 : (0 : Int) ≤ (k : Int) := by omega
        have hi2 : (k : Int) < (n : Int) := by omega
        go_wp2
        go_quiet (fail)
        go_wp2
        · have h : (!(str t).toList == (str t').toList) = true := by assumption
          go_ret
          exact ⟨ret_bool (same_no ht ht' h), q + nq, World.drewN_drewN _ _ _⟩
        · have h : (!(str t).toList == (str t').toList) = false := by assumption
          go_roundw
          case rel => exact ⟨k + 1, by omega, by go_num, Lib.hid (same_yes hq.out ht ht' h), q + nq, rfl⟩
          case measure => simp [intOf]; omega
      · go_wp2
        go_ret
        exact ⟨ret_bool (by rw [eq_comm, decide_eq_true_iff]; have := hq.out; rwa [List.take_of_length_le (by omega), List.take_of_length_le (by omega)] at this), q, rfl⟩
  · have hne : (((n : Int) != (n' : Int))) = true := by simp; omega
    go_enter Try.func40, Try.ntmps40
    go_wp2
    go_ret
    exact ⟨ret_bool (by rw [eq_comm, decide_eq_false_iff_not]; rintro rfl; omega), 0, rfl⟩
end Go.Proofs.Ytidfhgocnglnjaa
/- Proved here: contracts of slices.IndexFunc and slices.ContainsFunc over lists of texts, for whatever function is handed in that tells of each list a thing of its own. -/
namespace Go.Proofs.Ytidfhgocnglnjaa
open Go.RowKit
set_option linter.unusedVariables false
set_option maxRecDepth 100000

/-- What a function tells of each list, in whatever world that has drawn more. -/
def AskF (g2 : Nat) (lb : Array Value) (p : Txs → Bool) (rows : List Slc) (lists : List Txs) (w : World) : Prop :=
  ∀ (q k : Nat) (A1 : Option Addr) (n1 c1 : Nat) (ss : Txs), rows[k]? = some (A1, n1, c1) → lists[k]? = some ss → Calls Try.prog g2 (#[.slice A1 n1 c1] ++ lb) (w.drewN q) fun e w' => e = .returned (.bool (p ss)) ∧ ∃ z, w' = (w.drewN q).drewN z

set_option maxHeartbeats 1000000 in
theorem indexF_any (g2 : Nat) (lb : Array Value) (p : Txs → Bool) (A : Option Addr) (n c B : Nat) (rows : List Slc) (lists : List Txs) (w : World) (hn : n ≤ maxLen) (hA : RowsT w B A n rows lists)
    (hent : ∀ args w, (callFunc g2 args).run Try.prog w = .ok (.enter g2 args) w) (hX : AskF g2 lb p rows lists w) :
    Calls Try.prog 47 #[.slice A n c, .func (.func g2) #[] lb] w fun e w' => (∃ z : Int, e = .returned (.int .i64 z) ∧ decide (0 ≤ z) = lists.any p) ∧ ∃ k, w' = w.drewN k := by
  have hl := hA.len
  have hAh := Lib.hid hA
  have hlh := Lib.hid hl
  have hXh := Lib.hid hX
  unfold maxLen at hn
  clear hA hl hX
  go_enter Try.func47, Try.ntmps47
  go_wp2
  go_loopw [5, 8] (fun _ i wr => ∃ k : Nat, k ≤ n ∧ i = .int .i64 k ∧ Hid ((lists.take k).any p = false) ∧ ∃ q, wr = w.drewN q) (fun _ i _ => n - (intOf i).toNat)
  case atStart => exact ⟨0, Nat.zero_le _, rfl, Lib.hid (by simp), 0, rfl⟩
  case round =>
    obtain ⟨k, hk, rfl, hno, q, rfl⟩ := hrel
    by_cases hlt : k < n
    · obtain ⟨b, o, A1, n1, c1, ss, rfl, hb, hss, hrr, hc, hnc, hcm, hS⟩ := hAh.out.at_ (k := k) hlt
      have hi1 : (0 : Int) ≤ (k : Int) := by omega
      have hi2 : (k : Int) < (n : Int) := by omega
      have hC := hXh.out q k A1 n1 c1 ss hrr hss
      have hssh := Lib.hid hss
      have hc' : (w.drewN q).cell? ⟨b, o + k, none⟩ = some (.slice A1 n1 c1) := hc
      obtain ⟨r, hr⟩ : ∃ r, p ss = r := ⟨_, rfl⟩
      rw [hr] at hC
      have hCh := Lib.hid hC
      have hrh := Lib.hid hr
      clear hS hss hrr hC hr
      cases r
      · have hno3 := Lib.hid (show (lists.take (k + 1)).any p = false by rw [take_at hssh.out, List.any_append, hno.out]; simp [hrh.out])
        go_wp2_with (refine hCh.out.mono ?_; rintro e w1 ⟨rfl, q1, rfl⟩)
        go_roundw
        case rel => exact ⟨k + 1, by omega, by go_num, hno3, q + q1, rfl⟩
        case measure => simp [intOf]; omega
      · have hyes := Lib.hid (show lists.any p = true from List.any_eq_true.2 ⟨ss, List.mem_of_getElem? hssh.out, hrh.out⟩)
        go_wp2_with (refine hCh.out.mono ?_; rintro e w1 ⟨rfl, q1, rfl⟩)
        go_ret
        exact ⟨⟨_, rfl, by rw [hyes.out]; simp⟩, q + q1, rfl⟩
    · obtain rfl : k = n := by omega
      have hno2 : Hid (lists.any p = false) := Lib.hid (by have := hno.out; rwa [List.take_of_length_le (by rw [hlh.out]; exact Nat.le_refl _)] at this)
      go_wp2
      go_ret
      exact ⟨⟨_, rfl, by rw [hno2.out]; rfl⟩, q, rfl⟩

set_option maxHeartbeats 800000 in
theorem containsF_any (g2 : Nat) (lb : Array Value) (p : Txs → Bool) (A : Option Addr) (n c B : Nat) (rows : List Slc) (lists : List Txs) (w : World) (hn : n ≤ maxLen) (hA : RowsT w B A n rows lists)
    (hent : ∀ args w, (callFunc g2 args).run Try.prog w = .ok (.enter g2 args) w) (hX : AskF g2 lb p rows lists w) :
    Calls Try.prog 38 #[.slice A n c, .func (.func g2) #[] lb] w fun e w' => e = .returned (.bool (lists.any p)) ∧ ∃ k, w' = w.drewN k := by
  have hI := Lib.hid (indexF_any g2 lb p A n c B rows lists w hn hA hent hX)
  obtain ⟨r, hr⟩ : ∃ r, lists.any p = r := ⟨_, rfl⟩
  rw [hr] at hI ⊢
  clear hA hr hn hX hent
  go_enter Try.func38, Try.ntmps38
  go_wp2_with (go_at_call 47; refine hI.out.mono ?_; rintro e w1 ⟨⟨z, rfl, hz⟩, q, rfl⟩; have hzh := Lib.hid hz; clear hz)
  go_ret
  exact ⟨ret_bool hzh.out, q, rfl⟩
end Go.Proofs.Ytidfhgocnglnjaa
