/- Proved here: contracts of the document's own answers of layer 5: Empty, Same. -/
import Derived.Test.YtijinhhlikhjfaaAlignRef
import Derived.Laws.StructEq
namespace Go.Proofs.Ytijinhhlikhjfaa
open Go.RowKit
set_option linter.unusedVariables false

theorem some_step {ss : List Sp} {k : Nat} {s : Sp} (h : ss[k]? = some s) : (ss.take (k + 1)).any (fun s => decide (s.1 < s.2)) = ((ss.take k).any (fun s => decide (s.1 < s.2)) || decide (s.1 < s.2)) := by
  rw [take_at h, List.any_append]
  simp

/-- A chunk as a value. -/
def ckV (c : Ck) (A : Option Addr) (n k : Nat) : Value := .agg #[.bool c.1, .int .i64 c.2.1.1, .int .i64 c.2.1.2, .slice A n k]

set_option maxHeartbeats 1000000 in
theorem Empty_any (st : Bool) (f t : Int) (ss : List Sp) (A : Option Addr) (n c B : Nat) (w : World) (hn : n ≤ maxLen) (hB : B ≤ w.heap.size) (hA : Spans w B A n ss) :
    Calls Try.prog 20 #[.agg #[.bool st, .int .i64 f, .int .i64 t, .slice A n c]] w fun e w' => e = .returned (.bool (emptyB (st, (f, t), ss))) ∧ Below w.heap.size w w' := by
  have hl := hA.len
  unfold maxLen at hn
  have hA1 : Spans (w.alloc (.cells #[.bool st, .int .i64 f, .int .i64 t, .slice A n c] 39)) B A n ss := hA.keep fun p hp => World.cell?_alloc_lt _ _ p (by omega)
  have hb1 : Below w.heap.size w (w.alloc (.cells #[.bool st, .int .i64 f, .int .i64 t, .slice A n c] 39)) := (Below.refl _ _).alloc (Nat.le_refl _) _
  have hc1 : (w.alloc (.cells #[.bool st, .int .i64 f, .int .i64 t, .slice A n c] 39)).cell? ⟨w.heap.size, 3, none⟩ = some (.slice A n c) := by rw [World.cell?_alloc_mark]; rfl
  have h0 := Lib.hid (And.intro hc1 (And.intro hA1 hb1))
  obtain ⟨sb, hsb⟩ : ∃ sb, decide (f < t) = sb := ⟨_, rfl⟩
  have hr : emptyB (st, (f, t), ss) = !(sb || (ss.take n).any fun s => decide (s.1 < s.2)) := by
    unfold emptyB
    rw [← hsb, List.take_of_length_le (by omega)]
  have hrh := Lib.hid hr
  clear hA1 hb1 hc1 hr hA
  go_enter Try.func20, Try.ntmps20
  go_wp2
  go_loopw [3, 4] (fun s3 s4 wr => ∃ (k : Nat) (ob : Bool), k ≤ n ∧ s4 = .int .i64 k ∧ s3 = .bool ob ∧ Hid (ob = (sb || (ss.take k).any fun s => decide (s.1 < s.2))) ∧ wr.cell? ⟨w.heap.size, 3, none⟩ = some (.slice A n c) ∧ Hid (Spans wr B A n ss) ∧ Below w.heap.size w wr) (fun _ s4 _ => n - (intOf s4).toNat)
  case atStart => exact ⟨0, sb, Nat.zero_le _, rfl, rfl, Lib.hid (by simp), h0.out.1, Lib.hid h0.out.2.1, h0.out.2.2⟩
  case round =>
    obtain ⟨k, ob, hk, rfl, rfl, hob, hc, hS, hBe⟩ := hrel
    obtain ⟨wo, rfl⟩ : ∃ wo : World, wo = wr := ⟨_, rfl⟩
    clear h0 hsb
    by_cases hlt : k < n
    · obtain ⟨b, o, s, rfl, hb, hs, d1, d2⟩ := hS.out.at_ (k := k) hlt
      obtain ⟨s1, s2⟩ := s
      have hst := some_step hs
      have i1 : (0 : Int) ≤ (k : Int) := by omega
      have i2 : (k : Int) < (n : Int) := by omega
      cases ob
      · by_cases hlt2 : s1 < s2
        · have hq : Hid (true = (sb || (ss.take (k + 1)).any fun s => decide (s.1 < s.2))) := Lib.hid (by rw [hst]; simp [hlt2])
          clear hst
          go_wp2
          go_quiet (fail)
          obtain ⟨z1, rfl⟩ : ∃ z1, z1 = nq := ⟨_, rfl⟩
          go_wp2
          go_roundw
          case rel => exact ⟨k + 1, true, by omega, by go_num, rfl, hq, hc, hS, below_drewN hBe z1⟩
          case measure => simp [intOf] <;> omega
        · have hq : Hid (false = (sb || (ss.take (k + 1)).any fun s => decide (s.1 < s.2))) := Lib.hid (by rw [hst, ← Bool.or_assoc, ← hob.out]; simp [hlt2])
          clear hst
          go_wp2
          go_quiet (fail)
          obtain ⟨z1, rfl⟩ : ∃ z1, z1 = nq := ⟨_, rfl⟩
          go_wp2
          go_roundw
          case rel => exact ⟨k + 1, false, by omega, by go_num, by simp [hlt2], hq, hc, hS, below_drewN hBe z1⟩
          case measure => simp [intOf] <;> omega
      · have hq : Hid (true = (sb || (ss.take (k + 1)).any fun s => decide (s.1 < s.2))) := Lib.hid (by rw [hst, ← Bool.or_assoc, ← hob.out]; simp)
        clear hst
        go_wp2
        go_quiet (fail)
        obtain ⟨z1, rfl⟩ : ∃ z1, z1 = nq := ⟨_, rfl⟩
        go_wp2
        go_roundw
        case rel => exact ⟨k + 1, true, by omega, by go_num, rfl, hq, hc, hS, below_drewN hBe z1⟩
        case measure => simp [intOf] <;> omega
    · obtain rfl : k = n := by omega
      go_wp2
      go_ret
      exact ⟨ret_bool (by rw [hrh.out, ← hob.out]), hBe⟩

theorem neq_sp (a1 a2 b1 b2 : Int) (w : World) : (binOp .neq 36 (.agg #[.int .i64 a1, .int .i64 a2]) (.agg #[.int .i64 b1, .int .i64 b2])).run Try.prog w = .ok (.bool (((a1, a2) : Sp) != (b1, b2))) w := by
  go_simp
  by_cases h1 : a1 = b1 <;> by_cases h2 : a2 = b2 <;> simp [h1, h2]

theorem ksame_no {xs ys : List Ck} {k : Nat} {x y : Ck} (hx : xs[k]? = some x) (hy : ys[k]? = some y) (h : x ≠ y) : false = decide (xs = ys) := by
  rw [eq_comm, decide_eq_false_iff_not]
  rintro rfl
  rw [hx] at hy
  injection hy with hy
  exact h hy
theorem ksame_yes {xs ys : List Ck} {k : Nat} {x y : Ck} (hq : xs.take k = ys.take k) (hx : xs[k]? = some x) (hy : ys[k]? = some y) (h : x = y) : xs.take (k + 1) = ys.take (k + 1) := by
  rw [take_at hx, take_at hy, hq, h]
theorem ssame_no {xs ys : List Sp} {k : Nat} {x y : Sp} (hx : xs[k]? = some x) (hy : ys[k]? = some y) (h : (x != y) = true) : xs ≠ ys := by
  rintro rfl
  rw [hx] at hy
  injection hy with hy
  simp [hy] at h
theorem ssame_yes {xs ys : List Sp} {k : Nat} {x y : Sp} (hq : xs.take k = ys.take k) (hx : xs[k]? = some x) (hy : ys[k]? = some y) (h : (x != y) = false) : xs.take (k + 1) = ys.take (k + 1) := by
  have e : x = y := by simpa using h
  rw [take_at hx, take_at hy, hq, e]

set_option maxRecDepth 100000 in
set_option maxHeartbeats 4000000 in
theorem kSame_any (A A' : Option Addr) (n n' c c' B B' : Nat) (xs ys : List Ck) (w : World) (hn : n ≤ maxLen) (hn' : n' ≤ maxLen) (hA : Cks w B A n xs) (hA' : Cks w B' A' n' ys) :
    Calls Try.prog 15 #[.slice A n c, .slice A' n' c'] w fun e w' => e = .returned (.bool (decide (xs = ys))) ∧ ∃ k, w' = w.drewN k := by
  unfold maxLen at hn hn'
  have hl := hA.len
  have hl' := hA'.len
  by_cases hnn : n = n'
  · subst hnn
    go_enter Try.func15, Try.ntmps15
    go_wp2
    go_loopw [5, 6] (fun i _ wr => ∃ k : Nat, k ≤ n ∧ i = .int .i64 k ∧ Hid (xs.take k = ys.take k) ∧ ∃ q, wr = w.drewN q) (fun i _ _ => n - (intOf i).toNat)
    case atStart => exact ⟨0, Nat.zero_le _, rfl, Lib.hid rfl, 0, rfl⟩
    case round =>
      obtain ⟨k, hk, rfl, hq, q, rfl⟩ := hrel
      by_cases hlt : k < n
      · obtain ⟨b, o, ⟨x1, ⟨x2, x3⟩, xs4⟩, A1, n1, c1, rfl, hb, hx, d1, d2, d3, d4, hnc1, hm1, hS1⟩ := hA.at_ (k := k) hlt
        obtain ⟨b', o', ⟨y1, ⟨y2, y3⟩, ys4⟩, A2, n2, c2, rfl, hb', hy, e1, e2, e3, e4, hm2', hm2, hS2⟩ := hA'.at_ (k := k) hlt
        have i1 : (0 : Int) ≤ (k : Int) := by omega
        have i2 : (k : Int) < (n : Int) := by omega
        have hs1l : xs4.length = n1 := hS1.len
        have hs2l : ys4.length = n2 := hS2.len
        obtain ⟨q2, hq2⟩ : ∃ bb, (((x2, x3) : Sp) != (y2, y3)) = bb := ⟨_, rfl⟩
        have hne : ∀ W : World, (binOp .neq 36 (.agg #[.int .i64 x2, .int .i64 x3]) (.agg #[.int .i64 y2, .int .i64 y3])).run Try.prog W = .ok (.bool q2) W := fun W => by rw [neq_sp, hq2]
        have hq2h := Lib.hid hq2
        have hxh := Lib.hid hx
        have hyh := Lib.hid hy
        clear hq2 hx hy
        by_cases hq1 : x1 = y1
        rotate_left
        · have hno : Hid (false = decide (xs = ys)) := Lib.hid (ksame_no hxh.out hyh.out (fun e => by injection e with e _; exact hq1 e))
          obtain rfl : y1 = !x1 := by cases x1 <;> cases y1 <;> simp_all
          have hbb : (x1 != !x1) = true := by cases x1 <;> rfl
          clear hq1
          go_wp2
          go_quiet (fail)
          go_wp2
          go_ret
          exact ⟨ret_bool hno.out, _, World.drewN_drewN _ _ _⟩
        subst hq1
        have hbb : (x1 != x1) = false := by cases x1 <;> rfl
        cases q2
        rotate_left
        · have hno : Hid (false = decide (xs = ys)) := Lib.hid (ksame_no hxh.out hyh.out (fun e => by injection e with _ e; injection e with e _; have := hq2h.out; simp [e] at this))
          go_wp2
          go_quiet (fail)
          go_wp2
          go_ret
          exact ⟨ret_bool hno.out, _, World.drewN_drewN _ _ _⟩
        by_cases hn12 : n1 = n2
        rotate_left
        · have hno : Hid (false = decide (xs = ys)) := Lib.hid (ksame_no hxh.out hyh.out (fun e => by injection e with _ e; injection e with _ e; have := congrArg List.length e; omega))
          have hnb : ((n1 : Int) != (n2 : Int)) = true := by simp; omega
          go_wp2
          go_quiet (fail)
          go_wp2
          go_ret
          exact ⟨ret_bool hno.out, _, World.drewN_drewN _ _ _⟩
        subst hn12
        have hq1e : x1 = x1 := rfl
        have hq2e : ((x2, x3) : Sp) = (y2, y3) := by simpa using hq2h.out
        have hhd : Hid (xs4 = ys4 → ((x1, (x2, x3), xs4) : Ck) = (x1, (y2, y3), ys4)) := Lib.hid (fun h => by rw [hq2e, h])
        clear hq1e hq2e
        unfold maxLen at hm1
        have hS1h := Lib.hid hS1
        have hS2h := Lib.hid hS2
        clear hS1 hS2
        go_wp2
        go_quiet (fail)
        obtain ⟨z0, rfl⟩ : ∃ z0, z0 = nq := ⟨_, rfl⟩
        go_wp2
        go_loopw [6] (fun j wr => ∃ i : Nat, i ≤ n1 ∧ j = .int .i64 i ∧ Hid (xs4.take i = ys4.take i) ∧ ∃ q2, wr = w.drewN q2) (fun j _ => n1 - (intOf j).toNat)
        case atStart => exact ⟨0, Nat.zero_le _, rfl, Lib.hid rfl, _, World.drewN_drewN _ _ _⟩
        case round =>
          obtain ⟨i, hi, rfl, hqi, q4, rfl⟩ := hrel
          by_cases hin : i < n1
          · obtain ⟨g, p, ⟨s1, s2⟩, rfl, hg, hs, f1, f2⟩ := hS1h.out.at_ (k := i) hin
            obtain ⟨g', p', ⟨t1, t2⟩, rfl, hg', ht, f3, f4⟩ := hS2h.out.at_ (k := i) hin
            have i3 : (0 : Int) ≤ (i : Int) := by omega
            have i4 : (i : Int) < (n1 : Int) := by omega
            obtain ⟨q5, hq5⟩ : ∃ bb, (((s1, s2) : Sp) != (t1, t2)) = bb := ⟨_, rfl⟩
            have hne5 : ∀ W : World, (binOp .neq 36 (.agg #[.int .i64 s1, .int .i64 s2]) (.agg #[.int .i64 t1, .int .i64 t2])).run Try.prog W = .ok (.bool q5) W := fun W => by rw [neq_sp, hq5]
            have hq5h := Lib.hid hq5
            clear hq5
            cases q5
            · have hyes := Lib.hid (ssame_yes hqi.out hs ht hq5h.out)
              go_wp2
              go_quiet (fail)
              obtain ⟨z1, rfl⟩ : ∃ z1, z1 = nq := ⟨_, rfl⟩
              go_wp2
              go_roundw
              case rel => exact ⟨i + 1, by omega, by go_num, hyes, q4 + z1, rfl⟩
              case measure => simp [intOf]; omega
            · have hno : Hid (false = decide (xs = ys)) := Lib.hid (ksame_no hxh.out hyh.out (fun e => by injection e with _ e; injection e with _ e; exact ssame_no hs ht hq5h.out e))
              go_wp2
              go_quiet (fail)
              go_wp2
              go_ret
              exact ⟨ret_bool hno.out, _, World.drewN_drewN _ _ _⟩
          · obtain rfl : i = n1 := by omega
            have hse : xs4 = ys4 := by have := hqi.out; rwa [List.take_of_length_le (by omega), List.take_of_length_le (by omega)] at this
            have hyes := Lib.hid (ksame_yes hq.out hxh.out hyh.out (hhd.out hse))
            clear hse
            go_wp2
            go_roundw
            case rel => exact ⟨k + 1, by omega, by go_num, hyes, q4, rfl⟩
            case measure => simp [intOf]; omega
      · go_wp2
        go_ret
        exact ⟨ret_bool (by rw [eq_comm, decide_eq_true_iff]; have := hq.out; rwa [List.take_of_length_le (by omega), List.take_of_length_le (by omega)] at this), q, rfl⟩
  · have hne : (((n : Int) != (n' : Int))) = true := by simp; omega
    go_enter Try.func15, Try.ntmps15
    go_wp2
    go_ret
    exact ⟨ret_bool (by rw [eq_comm, decide_eq_false_iff_not]; rintro rfl; omega), 0, rfl⟩
end Go.Proofs.Ytijinhhlikhjfaa
