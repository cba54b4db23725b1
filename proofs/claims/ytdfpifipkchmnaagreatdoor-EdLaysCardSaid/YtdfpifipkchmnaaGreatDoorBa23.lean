/- Proved here: texts joined: EdCmd, EdRead. -/
import Derived.Test.YtdfpifipkchmnaaGreatDoorBa19
import Derived.Test.YtdfpifipkchmnaaGreatDoorBa22
/- Proved here: what read tells, where its result's cell is. -/
namespace Go.Proofs.YtdfpifipkchmnaaGreatDoor
open Go.RowKit
set_option linter.unusedVariables false
set_option maxRecDepth 100000

theorem ln_line (s : Tx) : lnB s = lineB s := by
  unfold lnB
  rw [may_eq]
  show (((([] : Txs).isEmpty && decide (0 < s.length) && nlN s == 0) || lineB s) && true && endedB s) = lineB s
  rw [Bool.and_true]
  cases h : lineB s with
  | true =>
    have : endedB s = true := by unfold lineB at h; rw [Bool.and_eq_true] at h; exact h.2
    rw [this]
    simp
  | false =>
    cases he : endedB s with
    | false => simp
    | true =>
      have hn : nlN s ≠ 0 := by
        intro h0
        unfold nlN at h0
        rw [List.count_eq_zero] at h0
        unfold endedB at he
        apply h0
        have := beq_iff_eq.1 he
        exact List.mem_of_getLast? this
      simp [hn]
theorem known_case (pre rest : Tx) : (rest = [97, 10] ∨ rest = [99, 10] ∨ rest = [100, 10] ∨ rest = subT) ∨ (rest ≠ [97, 10] ∧ rest ≠ [99, 10] ∧ rest ≠ [100, 10] ∧ rest ≠ subT) := by
  by_cases h1 : rest = [97, 10]
  · exact .inl (.inl h1)
  · by_cases h2 : rest = [99, 10]
    · exact .inl (.inr (.inl h2))
    · by_cases h3 : rest = [100, 10]
      · exact .inl (.inr (.inr (.inl h3)))
      · by_cases h4 : rest = subT
        · exact .inl (.inr (.inr (.inr h4)))
        · exact .inr ⟨h1, h2, h3, h4⟩
theorem read_cut {s : Tx} {k : Nat} {c : UInt8} (hc : s[k]? = some c) (ha : (s.take k).all comB = true) (hn : comB c = false) : s.takeWhile comB = s.take k ∧ s.dropWhile comB = s.drop k := by
  have hp := List.all_eq_true.1 ha
  have e : s = s.take k ++ s.drop k := (List.take_append_drop k s).symm
  have hd : s.drop k = c :: s.drop (k + 1) := drop_at hc
  constructor
  · conv => lhs; rw [e]
    rw [List.takeWhile_append_of_pos hp, hd, List.takeWhile_cons, if_neg (by rw [hn]; decide), List.append_nil]
  · conv => lhs; rw [e]
    rw [List.dropWhile_append_of_pos hp, hd, List.dropWhile_cons, if_neg (by rw [hn]; decide)]
/-- A command, told. -/
def CmdOut (w w' : World) (e : Ending) (x : Int × Int × UInt8) : Prop := e = .returned (.agg #[.int .i64 x.1, .int .i64 x.2.1, .int .u8 (x.2.2.toNat : Int)]) ∧ Below w.heap.size w w'

theorem cells_set3 {W : World} {L : Nat} {a b c : Value} {t : TypeId} (a' b' c' : Value) (h : W.heap[L]? = some (.cells #[a, b, c] t (0, 0))) : (((W.setCell ⟨L, 0, none⟩ a').setCell ⟨L, 1, none⟩ b').setCell ⟨L, 2, none⟩ c').heap[L]? = some (.cells #[a', b', c'] t (0, 0)) := by
  have st : ∀ {V : World} {C : Array Value} (j : Nat) (x : Value), V.heap[L]? = some (.cells C t (0, 0)) → (V.setCell ⟨L, j, none⟩ x).heap[L]? = some (.cells (C.setIfInBounds j x) t (0, 0)) := fun {V C} j x h => by
    obtain ⟨hlt, hk⟩ := Array.getElem?_eq_some_iff.1 h
    show (V.heap.modify L _)[L]? = _
    rw [Array.getElem?_eq_getElem (by rw [Array.size_modify]; exact hlt), Array.getElem_modify_self, hk]
    rfl
  exact st 2 c' (st 1 b' (st 0 a' h))
theorem cmd_end {w w2 : World} {s : Tx} {a b c : Value} (hh : w2.heap[w.heap.size]? = some (.cells #[a, b, c] 47 (0, 0))) (hB : Below w.heap.size w w2) (m n : Int) (d : UInt8) (o : Obj) (tmps : Array Value) (hr : readE s = (m, n, d)) (h2 : tmps[2]? = some (.pointer (some ⟨w.heap.size, 0, none⟩))) :
    bodyPost Tryz.prog Tryz.f23 (fun e w' => CmdOut w w' e (readE s)) Exit.ret { tmps := tmps, defers := [] } ((((w2.setCell ⟨w.heap.size, 0, none⟩ (.int .i64 m)).setCell ⟨w.heap.size, 1, none⟩ (.int .i64 n)).setCell ⟨w.heap.size, 2, none⟩ (.int .u8 (d.toNat : Int))).alloc o) := by
  have h3 := cells_set3 (.int .i64 m) (.int .i64 n) (.int .u8 (d.toNat : Int)) hh
  have hlt := (Array.getElem?_eq_some_iff.1 h3).1
  have hb3 := ((hB.setCell (p := ⟨w.heap.size, 0, none⟩) (Nat.le_refl _) (.int .i64 m)).setCell (p := ⟨w.heap.size, 1, none⟩) (Nat.le_refl _) (.int .i64 n)).setCell (p := ⟨w.heap.size, 2, none⟩) (Nat.le_refl _) (.int .u8 (d.toNat : Int))
  obtain ⟨W, hW⟩ : ∃ W, (((w2.setCell ⟨w.heap.size, 0, none⟩ (.int .i64 m)).setCell ⟨w.heap.size, 1, none⟩ (.int .i64 n)).setCell ⟨w.heap.size, 2, none⟩ (.int .u8 (d.toNat : Int))) = W := ⟨_, rfl⟩
  rw [hW] at h3 hb3 hlt ⊢
  have h4 : (W.alloc o).heap[w.heap.size]? = some (.cells #[.int .i64 m, .int .i64 n, .int .u8 (d.toNat : Int)] 47 (0, 0)) := by rw [push_at, if_neg (by omega)]; exact h3
  have hb4 := hb3.alloc hb3.size o
  obtain ⟨V, hV⟩ : ∃ V, W.alloc o = V := ⟨_, rfl⟩
  rw [hV] at h4 hb4 ⊢
  have y0 : V.cell? ⟨w.heap.size, 0, none⟩ = some (.int .i64 m) := by rw [cells_of h4]; rfl
  have y1 : V.cell? ⟨w.heap.size, 1, none⟩ = some (.int .i64 n) := by rw [cells_of h4]; rfl
  have y2 : V.cell? ⟨w.heap.size, 2, none⟩ = some (.int .u8 (d.toNat : Int)) := by rw [cells_of h4]; rfl
  refine bodyPost_ret (v := .agg #[.int .i64 m, .int .i64 n, .int .u8 (d.toNat : Int)]) (by simp [results, Tryz.results23, go_sem, h2, y0, y1, y2]) rfl ?_
  rw [hr]
  exact ⟨rfl, hb4⟩
end Go.Proofs.YtdfpifipkchmnaaGreatDoor
/- Proved here: the contract of the document's own answer of layer 17: read. -/
namespace Go.Proofs.YtdfpifipkchmnaaGreatDoor
open Go.RowKit
set_option linter.unusedVariables false
set_option maxRecDepth 100000

set_option maxHeartbeats 8000000 in
theorem rRead_any (s : Tx) (w : World) (hs : s.length ≤ 1000000) : Calls Tryz.prog 23 #[.string (str s)] w fun e w' => CmdOut w w' e (readE s) := by
  obtain ⟨S, hS⟩ : ∃ S, str s = S := ⟨_, rfl⟩
  obtain ⟨L, hL⟩ : ∃ L, s.length = L := ⟨_, rfl⟩
  have hz : S.size = L := by rw [← hS, str_size, hL]
  have hat : Hid (∀ k c, s[k]? = some c → ∃ h : k < S.size, S[k]'h = c) := Lib.hid (fun k c hc => by
    have hk : k < S.size := by rw [hz, ← hL]; exact (List.getElem?_eq_some_iff.1 hc).1
    refine ⟨hk, ?_⟩
    have h1 := byte_at S k hk
    have h2 : S.data.toList = s := by rw [← hS, str_data]
    rw [h2, hc] at h1
    injection h1 with h1
    exact h1.symm)
  have heq : Hid (∀ T : Tx, (S.toList == T) = decide (s = T)) := Lib.hid (fun T => by
    rw [← hS, Lib.toList_data, str_data, Bool.eq_iff_iff, beq_iff_eq, decide_eq_true_eq])
  have hLn : Hid (∀ W, Calls Tryz.prog 27 #[.string S] W fun e w' => e = .returned (.bool (lnB s)) ∧ W = w') := Lib.hid (fun W => by
    have h := Line_any S W (by rw [hz, ← hL]; unfold maxLen; omega)
    have h2 : S.data.toList = s := by rw [← hS, str_data]
    rw [h2, ← ln_line] at h
    exact h)
  have hB0 := Lib.hid (below_alloc (Below.refl w.heap.size w) (.cells #[.int .i64 0, .int .i64 0, .int .u8 0] 47))
  rw [hS]
  by_cases hw : s = [119, 10]
  · have t1 : (S.toList == [119, 10]) = true := by rw [heq.out, decide_eq_true hw]
    obtain ⟨i0, b0⟩ := hat.out 0 119 (by rw [hw]; rfl)
    have hL2 : L = 2 := by rw [← hL, hw]; rfl
    subst hL2
    have hr : Hid (readE s = (0, 0, 119)) := Lib.hid (by unfold readE; rw [if_pos hw])
    clear hs hS hL hw heq hLn hat
    go_enter Tryz.func23, Tryz.ntmps23
    go_wp2
    refine bodyPost_ret (v := .agg #[.int .i64 0, .int .i64 0, .int .u8 ((119 : UInt8).toNat : Int)]) (by simp [results, Tryz.results23, go_sem]) rfl ?_
    rw [hr.out]
    exact ⟨rfl, below_alloc (Below.refl _ _) _⟩
  · have t1 : (S.toList == [119, 10]) = false := by rw [heq.out, decide_eq_false hw]
    by_cases hq : s = [113, 10]
    · have t2 : (S.toList == [113, 10]) = true := by rw [heq.out, decide_eq_true hq]
      obtain ⟨i0, b0⟩ := hat.out 0 113 (by rw [hq]; rfl)
      have hL2 : L = 2 := by rw [← hL, hq]; rfl
      subst hL2
      have hr : Hid (readE s = (0, 0, 113)) := Lib.hid (by unfold readE; rw [if_neg hw, if_pos hq])
      clear hs hS hL hw hq heq hLn hat
      go_enter Tryz.func23, Tryz.ntmps23
      go_wp2
      refine bodyPost_ret (v := .agg #[.int .i64 0, .int .i64 0, .int .u8 ((113 : UInt8).toNat : Int)]) (by simp [results, Tryz.results23, go_sem]) rfl ?_
      rw [hr.out]
      exact ⟨rfl, below_alloc (Below.refl _ _) _⟩
    · have t2 : (S.toList == [113, 10]) = false := by rw [heq.out, decide_eq_false hq]
      cases hl : lnB s with
      | false =>
        have hr : Hid (readE s = (0, 0, 0)) := Lib.hid (by unfold readE; rw [if_neg hw, if_neg hq, if_pos hl])
        rw [hl] at hLn
        clear hs hS hL hw hq heq hat hl
        go_enter Tryz.func23, Tryz.ntmps23
        go_wp2_with (go_at_call 27; refine (hLn.out _).mono ?_; rintro e w1 ⟨rfl, hww⟩; subst hww)
        refine bodyPost_ret (v := .agg #[.int .i64 0, .int .i64 0, .int .u8 0]) (by simp [results, Tryz.results23, go_sem]) rfl ?_
        rw [hr.out]
        exact ⟨rfl, below_alloc (Below.refl _ _) _⟩
      | true =>
        have hr : Hid (readE s = knownE (s.takeWhile comB) (s.dropWhile comB)) := Lib.hid (by unfold readE; rw [if_neg hw, if_neg hq, if_neg (by rw [hl]; decide)])
        obtain ⟨v, hv, hv10⟩ := line_of hl
        have hcan : Hid (∀ k c, s[k]? = some c → comB c = true → k + 1 < L) := Lib.hid (fun k c hc hcb => by
          have hk : k < s.length := (List.getElem?_eq_some_iff.1 hc).1
          have hlen : s.length = v.length + 1 := by rw [hv]; simp
          rcases Nat.lt_or_ge (k + 1) L with h | h
          · exact h
          · exfalso
            have hkv : k = v.length := by omega
            rw [hv, hkv, List.getElem?_append_right (Nat.le_refl _), Nat.sub_self] at hc
            have : (10 : UInt8) = c := by simpa using hc
            subst this
            cases hcb)
        have hget : Hid (∀ k, k < L → ∃ c, s[k]? = some c) := Lib.hid (fun k hk => ⟨s[k]'(by omega), List.getElem?_eq_getElem _⟩)
        have hpos : 0 < L := by rw [← hL, hv]; simp
        have hDg := Lib.hid rDigit_any
        have hLi : Hid (∀ k W, W = w.alloc (.cells #[.int .i64 0, .int .i64 0, .int .u8 0] 47) → Calls Tryz.prog 38 #[.string (str (s.take k))] W fun e w' => e = .returned (.tuple #[.int .i64 (linesE (s.take k)).1, .int .i64 (linesE (s.take k)).2]) ∧ Below w.heap.size w w' ∧ w'.heap[w.heap.size]? = some (.cells #[.int .i64 0, .int .i64 0, .int .u8 0] 47 (0, 0))) := Lib.hid (fun k W hW => by
          subst hW
          refine (rLin_any (s.take k) _ (by rw [List.length_take]; omega)).mono ?_
          rintro e w' ⟨he, q, rfl⟩
          exact ⟨he, below_drewN (below_alloc (Below.refl _ _) _) q, one_a w _⟩)
        have hsl1 : Hid (∀ k, k ≤ L → ∀ W : World, (Instr.slice 9 (.string S) none (some (.int .i64 (k : Int))) none).run Tryz.prog W = .ok (.string (str (s.take k))) W) := Lib.hid (fun k hk W => by rw [← hS]; exact slice_str_to s k (by omega) W)
        have hsl2 : Hid (∀ k, k ≤ L → ∀ W : World, (Instr.slice 9 (.string S) (some (.int .i64 (k : Int))) none none).run Tryz.prog W = .ok (.string (str (s.drop k))) W) := Lib.hid (fun k hk W => by rw [← hS]; exact slice_str_from s k (by omega) W)
        have hLb : L ≤ 1000000 := by omega
        rw [hl] at hLn
        clear hs hS hL hw hq heq hl hv hv10
        go_enter Tryz.func23, Tryz.ntmps23
        go_wp2_with (go_at_call 27; refine (hLn.out _).mono ?_; rintro e w1 ⟨rfl, hww⟩; subst hww)
        go_loopw [3, 4] (fun s3 s4 wr => ∃ (k : Nat) (cm : Bool), k < L ∧ s3 = .int .i64 k ∧ s4 = .bool cm ∧ Hid ((s.take k).contains 44 = cm) ∧ Hid ((s.take k).all comB = true) ∧ wr = w.alloc (.cells #[.int .i64 0, .int .i64 0, .int .u8 0] 47)) (fun s3 _ _ => L - (intOf s3).toNat)
        case atStart => exact ⟨0, false, hpos, rfl, rfl, Lib.hid rfl, Lib.hid rfl, rfl⟩
        case round =>
          obtain ⟨k, cm, hk, rfl, rfl, hcm, ha, hww0⟩ := hrel
          have hww := Lib.hid hww0
          clear hww0
          obtain ⟨c, hc⟩ := hget.out k hk
          obtain ⟨ik, bk⟩ := hat.out k c hc
          have i1 : (0 : Int) ≤ (k : Int) := by omega
          have i2 : (k : Int) < (L : Int) := by omega
          have h44 := byte_is (c := c) (n := 44) (by omega)
          rw [show ((44 : Nat) : Int) = 44 from rfl, show UInt8.ofNat 44 = 44 from rfl] at h44
          have hDc := Lib.hid (fun W => hDg.out c W)
          have e8 : IntKind.i64.wrap ((k : Int) + 1) = (k : Int) + 1 := IntWalk.i64_in _ (by omega)
          obtain ⟨fb, hfb⟩ : ∃ fb, figB c = fb := ⟨_, rfl⟩
          obtain ⟨gb, hgb⟩ : ∃ gb, (c == 44) = gb := ⟨_, rfl⟩
          have hcb : comB c = (fb || gb) := by unfold comB; rw [hfb, hgb]
          have hcm2 : Hid ((s.take (k + 1)).contains 44 = (cm || gb)) := Lib.hid (by
            rw [take_at hc, ← hcm.out, ← hgb, Bool.eq_iff_iff, List.contains_iff_mem, List.mem_append, List.mem_singleton, Bool.or_eq_true, List.contains_iff_mem, beq_iff_eq, eq_comm (a := c)])
          have ha2 : Hid (comB c = true → (s.take (k + 1)).all comB = true) := Lib.hid (fun h => by rw [take_at hc, List.all_append, ha.out]; simp [h])
          have hk2 : Hid (comB c = true → k + 1 < L) := Lib.hid (hcan.out k c hc)
          rw [hfb] at hDc
          rw [hgb] at h44
          by_cases hx : (fb || gb) = true
          · rw [hcb, hx] at ha2 hk2
            have hgo := hk2.out rfl
            have ha3 := Lib.hid (ha2.out rfl)
            clear hk2 ha2 hcb hfb hgb hc ha hcm hLn
            have tok := trivial
            cases fb <;> cases gb <;> cases cm
            all_goals (first | (exfalso; revert hx; decide) | skip)
            all_goals
              clear hx
              go_wp2_with (go_at_call 37; refine (hDc.out _).mono ?_; rintro e w1 ⟨rfl, hww1⟩; subst hww1)
              go_roundw
              case rel => exact ⟨k + 1, _, hgo, by go_num, rfl, hcm2, ha3, hww.out⟩
              case measure => simp [intOf]; omega
          · have hx2 : (fb || gb) = false := by simpa using hx
            obtain ⟨h1, h2⟩ := Bool.or_eq_false_iff.1 hx2
            subst h1
            subst h2
            obtain ⟨hc1, hc2⟩ := read_cut hc ha.out hcb
            have hhd : (s.drop k).headD 0 = c := by rw [drop_at hc]; rfl
            obtain ⟨R, hR⟩ : ∃ R, str (s.drop k) = R := ⟨_, rfl⟩
            obtain ⟨T1, hT1⟩ : ∃ T1, str (s.take k) = T1 := ⟨_, rfl⟩
            have hs1 := hsl1.out k (by omega)
            have hs2 := hsl2.out k (by omega)
            have hLc := hLi.out k wr hww.out
            rw [hR] at hs2
            rw [hT1] at hs1 hLc
            have heqR : ∀ T : Tx, (R.toList == T) = decide (s.drop k = T) := fun T => by
              rw [← hR, Lib.toList_data, str_data, Bool.eq_iff_iff, beq_iff_eq, decide_eq_true_eq]
            obtain ⟨M, hM⟩ : ∃ M, (linesE (s.take k)).1 = M := ⟨_, rfl⟩
            obtain ⟨N, hN⟩ : ∃ N, (linesE (s.take k)).2 = N := ⟨_, rfl⟩
            have hrr : readE s = if ((s.drop k = [97, 10] ∧ cm = false) ∨ s.drop k = [99, 10] ∨ s.drop k = [100, 10] ∨ s.drop k = subT) ∧ 0 ≤ M ∧ 0 ≤ N then (M, N, c) else (0, 0, 0) := by
              rw [hr.out, hc1, hc2]
              unfold knownE
              rw [hcm.out, hM, hN, hhd]
            rw [hM, hN] at hLc
            have hLch := Lib.hid hLc
            obtain ⟨b1, b2, b3, b4, q1, q2, q3, q4, hcases, hrb⟩ : ∃ b1 b2 b3 b4 : Bool, (R.toList == [97, 10]) = b1 ∧ (R.toList == [99, 10]) = b2 ∧ (R.toList == [100, 10]) = b3 ∧ (R.toList == [115, 47, 94, 92, 46, 47, 47, 10]) = b4 ∧ ((b1 = true ∧ b2 = false ∧ b3 = false ∧ b4 = false) ∨ (b1 = false ∧ b2 = true ∧ b3 = false ∧ b4 = false) ∨ (b1 = false ∧ b2 = false ∧ b3 = true ∧ b4 = false) ∨ (b1 = false ∧ b2 = false ∧ b3 = false ∧ b4 = true) ∨ (b1 = false ∧ b2 = false ∧ b3 = false ∧ b4 = false)) ∧ readE s = if ((b1 && !cm) || b2 || b3 || b4) = true ∧ 0 ≤ M ∧ 0 ≤ N then (M, N, c) else (0, 0, 0) := by
              refine ⟨_, _, _, _, heqR _, heqR _, heqR _, heqR _, ?_, ?_⟩
              · rcases known_case [] (s.drop k) with (h | h | h | h) | ⟨h1, h2, h3, h4⟩
                · rw [h]; exact .inl (by decide)
                · rw [h]; exact .inr (.inl (by decide))
                · rw [h]; exact .inr (.inr (.inl (by decide)))
                · rw [h]; exact .inr (.inr (.inr (.inl (by decide))))
                · exact .inr (.inr (.inr (.inr ⟨decide_eq_false h1, decide_eq_false h2, decide_eq_false h3, decide_eq_false h4⟩)))
              · rw [hrr]
                congr 1
                simp only [Bool.or_eq_true, Bool.and_eq_true, decide_eq_true_eq, Bool.not_eq_true', subT, eq_iff_iff]
                constructor
                · rintro ⟨h | h | h | h, h5⟩
                  · exact ⟨.inl (.inl (.inl h)), h5⟩
                  · exact ⟨.inl (.inl (.inr h)), h5⟩
                  · exact ⟨.inl (.inr h), h5⟩
                  · exact ⟨.inr h, h5⟩
                · rintro ⟨((h | h) | h) | h, h5⟩
                  · exact ⟨.inl h, h5⟩
                  · exact ⟨.inr (.inl h), h5⟩
                  · exact ⟨.inr (.inr (.inl h)), h5⟩
                  · exact ⟨.inr (.inr (.inr h)), h5⟩
            have hrbh := Lib.hid hrb
            clear hx hx2 hcb hc1 hc2 hhd hR hT1 heqR hM hN hrr hrb hLc hr hLn hLi hsl1 hsl2 hcan hget hDg hcm2 ha2 hk2 hcm ha hat hfb hgb hc
            have hMN : M < 0 ∨ (¬ M < 0 ∧ N < 0) ∨ (¬ M < 0 ∧ ¬ N < 0) := by omega
            rcases hcases with ⟨rfl, rfl, rfl, rfl⟩ | ⟨rfl, rfl, rfl, rfl⟩ | ⟨rfl, rfl, rfl, rfl⟩ | ⟨rfl, rfl, rfl, rfl⟩ | ⟨rfl, rfl, rfl, rfl⟩
            all_goals cases cm
            all_goals first
              | (have hf : Hid (readE s = (0, 0, 0)) := Lib.hid (hrbh.out.trans (if_neg (fun h => absurd h.1 (by decide)))); clear hrbh hMN; have tokN := trivial)
              | (rcases hMN with hm1 | ⟨hm1, hm2⟩ | ⟨hm1, hm2⟩ <;> first
                  | (have hf : Hid (readE s = (M, N, c)) := Lib.hid (hrbh.out.trans (if_pos ⟨by decide, by omega, by omega⟩)); clear hrbh; have tokP := trivial)
                  | (have hf : Hid (readE s = (0, 0, 0)) := Lib.hid (hrbh.out.trans (if_neg (fun h => absurd h.2 (by omega)))); clear hrbh; have tokN := trivial))
            all_goals
              go_wp2_with (first
                | (go_at_call 37; refine (hDc.out _).mono ?_; rintro e w1 ⟨rfl, hww1⟩; subst hww1)
                | (go_at_call 38; refine hLch.out.mono ?_; rintro e w2 ⟨rfl, hb2, hh2⟩; have hB2 := Lib.hid hb2; have hlt2 : w.heap.size < w2.heap.size := (Array.getElem?_eq_some_iff.1 hh2).1; have x0 : w2.cell? ⟨w.heap.size, 0, none⟩ = some (.int .i64 0) := (by rw [cells_of hh2]; rfl); have x1 : w2.cell? ⟨w.heap.size, 1, none⟩ = some (.int .i64 0) := (by rw [cells_of hh2]; rfl); have x2 : w2.cell? ⟨w.heap.size, 2, none⟩ = some (.int .u8 0) := (by rw [cells_of hh2]; rfl); have f0 := unfrozen_of hh2 0; have f1 := unfrozen_of hh2 1; have f2 := unfrozen_of hh2 2; have hh2h := Lib.hid hh2; clear hb2 hh2))
            all_goals first
              | (have _t := tokP; exact cmd_end hh2h.out hB2.out M N c _ _ hf.out rfl)
              | (have _t := tokN; exact cmd_end hh2h.out hB2.out 0 0 0 _ _ hf.out rfl)
end Go.Proofs.YtdfpifipkchmnaaGreatDoor
