/- Proved here: texts joined: UmNext, UmSide. -/
import Derived.Test.YtcpopnhnihbofaaGreatDoorBe26
import Derived.Test.YtcpopnhnihbofaaGreatDoorBe27
/- Proved here: the landed reader's three functions that take the mark that comes next. -/
namespace Go.Proofs.YtcpopnhnihbofaaGreatDoor
open Go.RowKit
set_option linter.unusedVariables false
set_option maxRecDepth 100000

/-- The closure that compares marks. -/
def clR (Bt Bd : Nat) : Value := .func (.func 60) #[] #[.pointer (some ⟨Bt, 0, none⟩), .pointer (some ⟨Bd, 0, none⟩)]
/-- The piece that a conflict's parts make. -/
def endP (st : Int) (all : List Txs) : Pc := if st = 2 then (match all with | f :: b :: r => cPc b (f :: r) | _ => cPc [] all) else cPc [] all

section
variable {w wr : World} {L long : Nat} {st : Int} {nx vp vq u : Value} {qs : List (PcV × Pc)} {ps : List (Slc × Txs)} {tx cf : Bool} {cur : Txs}
theorem end_any (h : Rd w wr L long st nx vp vq u qs ps false true cur) (h2 : st = 2 → 1 ≤ ps.length) (hps : ps.length ≤ 1000) (hqs : qs.length ≤ 100000000) :
    Calls Tryz.prog 103 #[.pointer (some ⟨L, 0, none⟩)] wr fun e w' => e = .returned (.tuple #[]) ∧ ∃ vp' r, Rd w w' L long st (mvR 28 L) vp' (.slice none 0 0) (.slice none 0 0) (qs ++ [(r, endP st ((ps.map fun p => p.2) ++ [cur]))]) [] false false [] := by
  by_cases hs : st = 2
  · subst hs
    obtain ⟨f, b, rest, hall⟩ : ∃ f b rest, (ps.map fun p => p.2) ++ [cur] = f :: b :: rest := by
      have h3 := h2 rfl
      cases ps with
      | nil => simp at h3
      | cons p ps =>
        cases ps with
        | nil => exact ⟨_, _, [], rfl⟩
        | cons q ps => exact ⟨_, _, _, rfl⟩
    rw [hall]
    exact end_base h hall hps hqs
  · have : endP st ((ps.map fun p => p.2) ++ [cur]) = cPc [] ((ps.map fun p => p.2) ++ [cur]) := by unfold endP; rw [if_neg hs]
    rw [this]
    exact end_plain h hs hqs

set_option maxHeartbeats 2000000 in
theorem outside_anyR (t told : Tx) (Bt Bd : Nat) (h : Rd w wr L long st nx vp vq u qs [] tx false cur) (ht : Boxed wr Bt 9 (.string (str t))) (hd : Boxed wr Bd 9 (.string (str told))) :
    Calls Tryz.prog 28 #[.pointer (some ⟨L, 0, none⟩), clR Bt Bd] wr fun e w' => e = .returned (.bool (isC t told 60 [32, 49])) ∧ Below w.heap.size w w' ∧ (isC t told 60 [32, 49] = true → ∃ vq' r, u = slcV r ∧ Rd w w' L long st (mvR 55 L) vp vq' (.slice none 0 0) (qsF qs tx r cur) [] false true []) := by
  have hIs : Hid (Calls Tryz.prog 60 #[.string ⟨#[60]⟩, .string ⟨#[32, 49]⟩, .pointer (some ⟨Bt, 0, none⟩), .pointer (some ⟨Bd, 0, none⟩)] wr fun e w' => e = .returned (.bool (isC t told 60 [32, 49])) ∧ wr = w') := Lib.hid (is_any t told [32, 49] 60 Bt Bd wr (by decide) ht hd)
  have hB := Lib.hid (begin_any h (by simp) 55)
  have hb0 := Lib.hid h.below
  obtain ⟨o, ho⟩ : ∃ o, isC t told 60 [32, 49] = o := ⟨_, rfl⟩
  rw [ho] at hIs ⊢
  unfold clR
  unfold mvR at hB ⊢
  clear h ht hd ho
  cases o
  · go_enter Tryz.func28, Tryz.ntmps28
    go_wp2_with (go_at_call 60; refine hIs.out.mono ?_; rintro e w1 ⟨rfl, rfl⟩)
    go_ret
    exact ⟨rfl, hb0.out, fun h => by cases h⟩
  · go_enter Tryz.func28, Tryz.ntmps28
    go_wp2_with (first
      | (go_at_call 60; refine hIs.out.mono ?_; rintro e w1 ⟨rfl, rfl⟩)
      | (go_at_call 54; refine hB.out.mono ?_; rintro e w2 ⟨rfl, vq', r, hu, hR⟩; have hRh := Lib.hid (And.intro hu hR); clear hu hR))
    go_ret
    exact ⟨rfl, hRh.out.2.below, fun _ => ⟨vq', r, hRh.out.1, hRh.out.2⟩⟩

set_option maxHeartbeats 8000000 in
theorem others_any (t told : Tx) (Bt Bd n : Nat) (h : Rd w wr L long st nx vp vq u qs ps false true cur) (hn : n = if st = 2 then ps.length else ps.length + 1) (h2 : st = 2 → 1 ≤ ps.length) (hps : ps.length ≤ 1000) (hqs : qs.length ≤ 100000000) (ht : Boxed wr Bt 9 (.string (str t))) (hd : Boxed wr Bd 9 (.string (str told)))
    (Q : Bool → World → Prop) (hQ1 : (decide (n < 16) && isC t told 61 (32 :: numT (n + 1))) = true → ∀ w' vq' r, u = slcV r → Rd w w' L long st (mvR 84 L) vp vq' (.slice none 0 0) qs (ps ++ [(r, cur)]) false true [] → Q true w')
    (hQ2 : (decide (n < 16) && isC t told 61 (32 :: numT (n + 1))) = false → isC t told 62 [] = true → ∀ w' vp' r, Rd w w' L long st (mvR 28 L) vp' (.slice none 0 0) (.slice none 0 0) (qs ++ [(r, endP st ((ps.map fun p => p.2) ++ [cur]))]) [] false false [] → Q true w')
    (hQ3 : (decide (n < 16) && isC t told 61 (32 :: numT (n + 1))) = false → isC t told 62 [] = false → Q false wr) :
    Calls Tryz.prog 84 #[.pointer (some ⟨L, 0, none⟩), clR Bt Bd] wr fun e w' => ∃ ok, e = .returned (.bool ok) ∧ Below w.heap.size w w' ∧ Q ok w' := by
  have hE := Lib.hid (end_any h h2 hps hqs)
  have hB : Hid (Calls Tryz.prog 54 #[.pointer (some ⟨L, 0, none⟩), mvR 84 L] wr fun e w' => e = .returned (.tuple #[]) ∧ ∃ vq' r, u = slcV r ∧ Rd w w' L long st (mvR 84 L) vp vq' (.slice none 0 0) qs (ps ++ [(r, cur)]) false true []) := Lib.hid (begin_any h hps 84)
  have hb0 := Lib.hid h.below
  obtain ⟨m, hm⟩ : ∃ m, ps.length = m := ⟨_, rfl⟩
  obtain ⟨N, hN⟩ : ∃ N, m + 1 = N := ⟨_, rfl⟩
  obtain ⟨n1, hn1⟩ : ∃ n1, n + 1 = n1 := ⟨_, rfl⟩
  obtain ⟨G, cap, rfl, -⟩ := h.last_part hm
  rw [hN] at h
  have x2 := h.cells.2.2.1
  have x3 := h.cells.2.2.2.1
  have hnN : n ≤ 1001 := by rw [hn, hm]; split <;> omega
  have e62 : Hid (Calls Tryz.prog 60 #[.string ⟨#[62]⟩, .string ⟨#[]⟩, .pointer (some ⟨Bt, 0, none⟩), .pointer (some ⟨Bd, 0, none⟩)] wr fun e w' => e = .returned (.bool (isC t told 62 [])) ∧ wr = w') := Lib.hid (is_any t told [] 62 Bt Bd wr (by decide) ht hd)
  obtain ⟨o62, ho62⟩ : ∃ o, isC t told 62 [] = o := ⟨_, rfl⟩
  rw [ho62] at e62 hQ2 hQ3
  rw [hn1] at hQ1 hQ2 hQ3
  obtain ⟨o61, ho61⟩ : ∃ o, isC t told 61 (32 :: numT n1) = o := ⟨_, rfl⟩
  rw [ho61] at hQ1 hQ2 hQ3
  obtain ⟨X, hX⟩ : ∃ X, (⟨(Lib.decDigits n1).toArray⟩ : ByteArray) = X := ⟨_, rfl⟩
  have hnum : n < 16 → (numT n1).length ≤ 2 := fun h16 => by unfold numT; split <;> simp
  have hXs : Hid (n < 16 → ¬ 9223372036854775807 < 1 + X.size) := Lib.hid (fun h16 => by
    have h3 := hnum h16
    rw [← hX, digits_num n1 (by omega)]
    show ¬ 9223372036854775807 < 1 + (str (numT n1)).size
    rw [str_size]
    omega)
  have hXe : n < 16 → (⟨#[32]⟩ : ByteArray) ++ X = str (32 :: numT n1) := fun h16 => by
    rw [← hX, digits_num n1 (by omega)]
    show str [32] ++ str (numT n1) = _
    rw [strs_app]
    rfl
  have hIt : Hid (n < 16 → Calls Tryz.prog 83 #[.int .i64 (n1 : Int)] wr fun e w' => e = .returned (.string X) ∧ wr = w') := Lib.hid (fun h16 => by
    have := Tryz.strconv_Itoa_small n1 (by omega) wr
    rw [hX] at this
    exact this.mono fun e w' h => ⟨h.1, h.2.symm⟩)
  have e61 : Hid (n < 16 → Calls Tryz.prog 60 #[.string ⟨#[61]⟩, .string (⟨#[32]⟩ ++ X), .pointer (some ⟨Bt, 0, none⟩), .pointer (some ⟨Bd, 0, none⟩)] wr fun e w' => e = .returned (.bool o61) ∧ wr = w') := Lib.hid (fun h16 => by
    rw [hXe h16, ← ho61]
    exact is_any t told (32 :: numT n1) 61 Bt Bd wr (by have := hnum h16; rw [List.length_cons]; omega) ht hd)
  have i0 : (N : Int) - 1 = (m : Int) := by omega
  have i1 : IntKind.i64.wrap ((N : Int) - 1) = (m : Int) := by rw [i0]; exact IntWalk.i64_in _ (by omega)
  have i2 : (n : Int) + 1 = (n1 : Int) := by omega
  have i3 : IntKind.i64.wrap ((n : Int) + 1) = (n1 : Int) := by rw [i2]; exact IntWalk.i64_in _ (by omega)
  have i4 : IntKind.i64.wrap (n1 : Int) = (n1 : Int) := IntWalk.i64_in _ (by omega)
  have i5 : IntKind.i64.wrap (m : Int) = (m : Int) := IntWalk.i64_in _ (by omega)
  obtain ⟨d16, hd16⟩ : ∃ d, decide (n < 16) = d := ⟨_, rfl⟩
  rw [hd16] at hQ1 hQ2 hQ3
  have hdh := Lib.hid hd16
  unfold mvR at hQ1 hQ2
  have hQ1h := Lib.hid hQ1
  have hQ2h := Lib.hid hQ2
  have hQ3h := Lib.hid hQ3
  clear hd16 hQ1 hQ2 hQ3
  have hnl : Hid (n = if st = 2 then m else N) := Lib.hid (by rw [hn, hm, hN])
  unfold clR
  unfold mvR at hE hB
  clear h ht hd hXe hnum hX hn hm hN hn1 ho62 ho61 hps hqs h2
  by_cases hs : st = 2
  case' pos =>
    have hsb : (st == 2) = true := by rw [beq_iff_eq]; exact hs
    obtain rfl : n = m := by rw [hnl.out, if_pos hs]
    clear hs hnl
    go_enter Tryz.func84, Tryz.ntmps84
    go_upto_region 4 with fail
  case' neg =>
    have hsb : (st == 2) = false := by rw [beq_eq_false_iff_ne]; exact hs
    obtain rfl : n = N := by rw [hnl.out, if_neg hs]
    clear hs hnl i0 i1
    go_enter Tryz.func84, Tryz.ntmps84
    go_upto_region 4 with fail
  all_goals
    cases d16
    rotate_left
    · have h16 : n < 16 := of_decide_eq_true hdh.out
      have g16 : (n : Int) < 16 := by omega
      have hItn := Lib.hid (hIt.out h16)
      have hXl := hXs.out h16
      have e61n := Lib.hid (e61.out h16)
      clear hIt e61 h16 hdh
      have tok1 := trivial
      cases o61
      · cases o62
        · go_wp2_with (first
            | (go_at_call 83; refine hItn.out.mono ?_; rintro e w1 ⟨rfl, rfl⟩)
            | (go_at_call 60; have _t := tok1; refine e61n.out.mono ?_; rintro e w1 ⟨rfl, rfl⟩; have tok2 := trivial; clear tok1)
            | (go_at_call 60; have _t := tok2; refine e62.out.mono ?_; rintro e w1 ⟨rfl, rfl⟩; clear tok2))
          go_ret
          exact ⟨_, rfl, hb0.out, hQ3h.out (by trivial) (by trivial)⟩
        · go_wp2_with (first
            | (go_at_call 83; refine hItn.out.mono ?_; rintro e w1 ⟨rfl, rfl⟩)
            | (go_at_call 60; have _t := tok1; refine e61n.out.mono ?_; rintro e w1 ⟨rfl, rfl⟩; have tok2 := trivial; clear tok1)
            | (go_at_call 60; have _t := tok2; refine e62.out.mono ?_; rintro e w1 ⟨rfl, rfl⟩; clear tok2)
            | (go_at_call 103; refine hE.out.mono ?_; rintro e w2 ⟨rfl, vp', r, hR⟩; have hRh := Lib.hid hR; clear hR))
          go_ret
          exact ⟨_, rfl, hRh.out.below, hQ2h.out (by trivial) (by trivial) _ _ _ hRh.out⟩
      · go_wp2_with (first
          | (go_at_call 83; refine hItn.out.mono ?_; rintro e w1 ⟨rfl, rfl⟩)
          | (go_at_call 60; have _t := tok1; refine e61n.out.mono ?_; rintro e w1 ⟨rfl, rfl⟩; have tok2 := trivial; clear tok1)
          | (go_at_call 54; refine hB.out.mono ?_; rintro e w2 ⟨rfl, vq', r, hu, hR⟩; have hRh := Lib.hid (And.intro hu hR); clear hu hR))
        go_ret
        exact ⟨_, rfl, hRh.out.2.below, hQ1h.out (by trivial) _ _ _ hRh.out.1 hRh.out.2⟩
    · have h16 : ¬ n < 16 := of_decide_eq_false hdh.out
      have g16 : ¬ (n : Int) < 16 := by omega
      clear hIt e61 h16 hdh
      cases o62
      · go_wp2_with (go_at_call 60; refine e62.out.mono ?_; rintro e w1 ⟨rfl, rfl⟩)
        go_ret
        exact ⟨_, rfl, hb0.out, hQ3h.out (by trivial) (by trivial)⟩
      · go_wp2_with (first
          | (go_at_call 60; refine e62.out.mono ?_; rintro e w1 ⟨rfl, rfl⟩)
          | (go_at_call 103; refine hE.out.mono ?_; rintro e w2 ⟨rfl, vp', r, hR⟩; have hRh := Lib.hid hR; clear hR))
        go_ret
        exact ⟨_, rfl, hRh.out.below, hQ2h.out (by trivial) (by trivial) _ _ _ hRh.out⟩
end
end Go.Proofs.YtcpopnhnihbofaaGreatDoor
/- Proved here: the landed reader's behindSide1. -/
namespace Go.Proofs.YtcpopnhnihbofaaGreatDoor
open Go.RowKit
set_option linter.unusedVariables false
set_option maxRecDepth 100000

section
variable {w wr : World} {L long : Nat} {st : Int} {nx vp vq u : Value} {qs : List (PcV × Pc)} {cur : Txs}
set_option maxHeartbeats 4000000 in
theorem side1_any (t told : Tx) (Bt Bd : Nat) (h : Rd w wr L long st nx vp vq u qs [] false true cur) (hqs : qs.length ≤ 100000000) (ht : Boxed wr Bt 9 (.string (str t))) (hd : Boxed wr Bd 9 (.string (str told)))
    (Q : Bool → World → Prop) (hQ1 : (decide (st ≠ 1) && isC t told 124 [32, 98, 97, 115, 101]) = true → ∀ w' vq' r, u = slcV r → Rd w w' L long 2 (mvR 84 L) vp vq' (.slice none 0 0) qs [(r, cur)] false true [] → Q true w')
    (hQ2 : (decide (st ≠ 1) && isC t told 124 [32, 98, 97, 115, 101]) = false → st = 2 → Q false wr)
    (hQ3 : (decide (st ≠ 1) && isC t told 124 [32, 98, 97, 115, 101]) = false → st ≠ 2 → isC t told 61 (32 :: numT 2) = true → ∀ w' vq' r, u = slcV r → Rd w w' L long 1 (mvR 84 L) vp vq' (.slice none 0 0) qs [(r, cur)] false true [] → Q true w')
    (hQ4 : (decide (st ≠ 1) && isC t told 124 [32, 98, 97, 115, 101]) = false → st ≠ 2 → isC t told 61 (32 :: numT 2) = false → isC t told 62 [] = true → ∀ w' vp' r, Rd w w' L long 1 (mvR 28 L) vp' (.slice none 0 0) (.slice none 0 0) (qs ++ [(r, cPc [] [cur])]) [] false false [] → Q true w')
    (hQ5 : (decide (st ≠ 1) && isC t told 124 [32, 98, 97, 115, 101]) = false → st ≠ 2 → isC t told 61 (32 :: numT 2) = false → isC t told 62 [] = false → ∀ w', Q false w') :
    Calls Tryz.prog 55 #[.pointer (some ⟨L, 0, none⟩), clR Bt Bd] wr fun e w' => ∃ ok, e = .returned (.bool ok) ∧ Below w.heap.size w w' ∧ Q ok w' := by
  have hIs : Hid (Calls Tryz.prog 60 #[.string ⟨#[124]⟩, .string ⟨#[32, 98, 97, 115, 101]⟩, .pointer (some ⟨Bt, 0, none⟩), .pointer (some ⟨Bd, 0, none⟩)] wr fun e w' => e = .returned (.bool (isC t told 124 [32, 98, 97, 115, 101])) ∧ wr = w') := Lib.hid (is_any t told [32, 98, 97, 115, 101] 124 Bt Bd wr (by decide) ht hd)
  obtain ⟨wA, hwA⟩ : ∃ wA, wA = wr.setCell ⟨L, 3, none⟩ (.int .i64 2) := ⟨_, rfl⟩
  obtain ⟨wB, hwB⟩ : ∃ wB, wB = wr.setCell ⟨L, 3, none⟩ (.int .i64 1) := ⟨_, rfl⟩
  have hA : Rd w wA L long 2 nx vp vq u qs [] false true cur := by rw [hwA]; exact h.style 2
  have hBr : Rd w wB L long 1 nx vp vq u qs [] false true cur := by rw [hwB]; exact h.style 1
  have hBeg : Hid (Calls Tryz.prog 54 #[.pointer (some ⟨L, 0, none⟩), mvR 84 L] wA fun e w' => e = .returned (.tuple #[]) ∧ ∃ vq' r, u = slcV r ∧ Rd w w' L long 2 (mvR 84 L) vp vq' (.slice none 0 0) qs [(r, cur)] false true []) := Lib.hid (begin_any hA (by simp) 84)
  have hkeep : ∀ (B : Nat) (v : Value), Boxed wr B 9 v → Boxed wB B 9 v := fun B v hb => by
    rw [hwB]
    exact ((But.setL (F := fun k => k = L) rfl 3 (.int .i64 1)).block B hb.lt (box_ne hb h.at_ (by decide))).trans hb
  have hO : (decide (st ≠ 1) && isC t told 124 [32, 98, 97, 115, 101]) = false → st ≠ 2 → Calls Tryz.prog 84 #[.pointer (some ⟨L, 0, none⟩), clR Bt Bd] wB fun e w' => ∃ ok, e = .returned (.bool ok) ∧ Below w.heap.size w w' ∧ Q ok w' := fun h1 h2 =>
    others_any t told Bt Bd 1 hBr (by simp) (by simp) (by simp) hqs (hkeep _ _ ht) (hkeep _ _ hd) Q (fun k w' vq' r hu hR => hQ3 h1 h2 (by simpa using k) w' vq' r hu hR)
      (fun k k2 w' vp' r hR => hQ4 h1 h2 (by simpa using k) k2 w' vp' r (by simpa [endP] using hR)) (fun k k2 => hQ5 h1 h2 (by simpa using k) k2 wB)
  obtain ⟨o, ho⟩ : ∃ o, isC t told 124 [32, 98, 97, 115, 101] = o := ⟨_, rfl⟩
  rw [ho] at hIs hQ1 hQ2 hO
  obtain ⟨d1, hd1⟩ : ∃ d, decide (st ≠ 1) = d := ⟨_, rfl⟩
  rw [hd1] at hQ1 hQ2 hO
  have x3 := h.cells.2.2.2.1
  have f3 := h.free 3
  have a3 := hA.cells.2.2.2.1
  have hb0 := Lib.hid h.below
  have hwAh := Lib.hid hwA
  have hwBh := Lib.hid hwB
  have hd1h := Lib.hid hd1
  unfold mvR at hBeg hQ1
  unfold clR at hO ⊢
  have hQ1h := Lib.hid hQ1
  have hQ2h := Lib.hid hQ2
  have hOh := Lib.hid hO
  clear h hA hBr ht hd hkeep ho hwA hwB hd1 hQ1 hQ2 hQ3 hQ4 hQ5 hO
  cases d1
  · have hs1 : st = 1 := by have := of_decide_eq_false hd1h.out; omega
    subst hs1
    have hOn := Lib.hid (hOh.out rfl (by decide))
    go_enter Tryz.func55, Tryz.ntmps55
    go_upto_region 7 with fail
    rw [← hwBh.out]
    go_wp2_with (go_at_call 84; refine hOn.out.mono ?_; rintro e w1 ⟨ok, rfl, q1, q2⟩; have hq := Lib.hid (And.intro q1 q2); clear q1 q2)
    go_ret
    exact ⟨_, rfl, hq.out.1, hq.out.2⟩
  · have hs1 : (st != 1) = true := by have := of_decide_eq_true hd1h.out; simpa using this
    cases o
    · by_cases h2 : st = 2
      · subst h2
        go_enter Tryz.func55, Tryz.ntmps55
        go_wp2_with (go_at_call 60; refine hIs.out.mono ?_; rintro e w1 ⟨rfl, rfl⟩)
        go_ret
        exact ⟨_, rfl, hb0.out, hQ2h.out (by trivial) (by trivial)⟩
      · have h2b : (st != 2) = true := by simpa using h2
        have hOn := Lib.hid (hOh.out rfl h2)
        clear h2
        go_enter Tryz.func55, Tryz.ntmps55
        go_upto_region 7 with (go_at_call 60; refine hIs.out.mono ?_; rintro e w1 ⟨rfl, rfl⟩)
        rw [← hwBh.out]
        go_wp2_with (go_at_call 84; refine hOn.out.mono ?_; rintro e w1 ⟨ok, rfl, q1, q2⟩; have hq := Lib.hid (And.intro q1 q2); clear q1 q2)
        go_ret
        exact ⟨_, rfl, hq.out.1, hq.out.2⟩
    · go_enter Tryz.func55, Tryz.ntmps55
      go_upto_region 3 with (go_at_call 60; refine hIs.out.mono ?_; rintro e w1 ⟨rfl, rfl⟩)
      rw [← hwAh.out]
      go_wp2_with (go_at_call 54; refine hBeg.out.mono ?_; rintro e w2 ⟨rfl, vq', r, hu, hR⟩; have hRh := Lib.hid (And.intro hu hR); clear hu hR)
      go_ret
      exact ⟨_, rfl, hRh.out.2.below, hQ1h.out (by trivial) _ _ _ hRh.out.1 hRh.out.2⟩
end
end Go.Proofs.YtcpopnhnihbofaaGreatDoor
