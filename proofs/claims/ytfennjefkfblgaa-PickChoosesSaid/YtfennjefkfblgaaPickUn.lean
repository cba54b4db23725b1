/- Proved here: the contract of the document's own answer of layer 7: union. -/
import Derived.Test.YtfennjefkfblgaaPcOut
import Derived.Deep.DeepCutAuto
import Derived.Outline
import Derived.Test.YtfennjefkfblgaaOpen
namespace Go.Proofs.Ytfennjefkfblgaa
open Go.RowKit
set_option linter.unusedVariables false

/-- A list, ended if something stands behind it. -/
def partU (d : Txs) (bh : Bool) : Txs := if bh then closed d else d
theorem unionT_cons (d : Txs) (ds : List Txs) : unionT (d :: ds) = partU d (ds.any fun x => !x.isEmpty) ++ unionT ds := rfl
theorem partU_at {d : Txs} {bh : Bool} {k : Nat} {s : Tx} (h : d[k]? = some s) : (partU d bh)[k]? = some (if k + 1 = d.length ∧ bh = true ∧ openB d = true then s ++ [10] else s) := by
  unfold partU
  cases bh
  · simp [h]
  · have hk := (List.getElem?_eq_some_iff.1 h).1
    have hlast : d.getLast? = some (d[d.length - 1]'(by omega)) := by rw [List.getLast?_eq_getElem?, List.getElem?_eq_getElem]
    obtain ⟨t, ht⟩ : ∃ t, d[d.length - 1]'(by omega) = t := ⟨_, rfl⟩
    rw [ht] at hlast
    have ho : openB d = !endedB t := by unfold openB; rw [hlast]
    unfold closed
    rw [if_pos rfl, hlast]
    dsimp only
    by_cases he : endedB t = true
    · rw [if_pos he, h, ho, he]
      simp
    · rw [if_neg he, ho]
      by_cases hkl : k + 1 = d.length
      · have e1 : d.length - 1 = k := by omega
        have : s = t := by
          rw [← ht]
          obtain ⟨h1, h2⟩ := List.getElem?_eq_some_iff.1 h
          rw [← h2]
          congr 1
          omega
        subst this
        have hl : d.dropLast.length = k := by simp; omega
        rw [List.getElem?_append_right (by omega), hl, Nat.sub_self]
        simp [he, hkl]
      · rw [List.getElem?_append_left (by simp; omega), if_neg (fun h => hkl h.1), List.getElem?_dropLast, if_pos (by omega), h]
theorem partU_len (d : Txs) (bh : Bool) : (partU d bh).length = d.length := by
  unfold partU
  split
  · exact closed_len d
  · rfl
/-- Does something stand behind place i, ahead of place k? -/
def behindP (ds : List Txs) (i k : Nat) : Prop := ∃ j x, i < j ∧ j < k ∧ ds[j]? = some x ∧ x ≠ []
theorem behindP_step {ds : List Txs} {i k : Nat} {x : Txs} (hik : i < k) (h : ds[k]? = some x) : behindP ds i (k + 1) ↔ behindP ds i k ∨ x ≠ [] := by
  constructor
  · rintro ⟨j, y, h1, h2, h3, h4⟩
    rcases Nat.lt_or_ge j k with h5 | h5
    · exact .inl ⟨j, y, h1, h5, h3, h4⟩
    · obtain rfl : j = k := by omega
      rw [h] at h3
      injection h3 with h3
      subst h3
      exact .inr h4
  · rintro (⟨j, y, h1, h2, h3, h4⟩ | h4)
    · exact ⟨j, y, h1, by omega, h3, h4⟩
    · exact ⟨k, x, hik, by omega, h, h4⟩
theorem behindP_end {ds : List Txs} {i : Nat} {kn : Bool} (h : kn = true ↔ behindP ds i ds.length) : kn = (ds.drop (i + 1)).any fun x => !x.isEmpty := by
  rw [Bool.eq_iff_iff, h, List.any_eq_true]
  constructor
  · rintro ⟨j, x, h1, h2, h3, h4⟩
    refine ⟨x, List.mem_of_getElem? (i := j - (i + 1)) (by rw [List.getElem?_drop, show i + 1 + (j - (i + 1)) = j by omega]; exact h3), by cases x <;> simp_all⟩
  · rintro ⟨x, h1, h2⟩
    obtain ⟨j, hj⟩ := List.mem_iff_getElem?.1 h1
    rw [List.getElem?_drop] at hj
    exact ⟨i + 1 + j, x, by omega, (List.getElem?_eq_some_iff.1 hj).1, hj, by rintro rfl; simp at h2⟩
set_option maxRecDepth 100000 in
set_option maxHeartbeats 16000000 in
theorem rUnion_any (A : Option Addr) (n c : Nat) (rows : List Slc) (ds : List Txs) (w : World) (hn : n ≤ 100000) (hln : ∀ d ∈ ds, d.length ≤ 1000000) (htx : ∀ d ∈ ds, ∀ s ∈ d, s.length ≤ 1000000) (hsum : (unionT ds).length ≤ 1000000000) (hA : RowsT w w.heap.size A n rows ds) :
    Calls Try.prog 32 #[.slice A n c] w fun e w' => TxsOut w w' e (unionT ds) := by
  have hl := hA.len
  obtain ⟨i0, hi, hzz⟩ := Option.map_eq_some_iff.1 infoStr
  simp only [Prod.mk.injEq] at hzz
  obtain ⟨hz0, hz1, hz2⟩ := hzz
  have hAh := Lib.hid hA
  have hsumh := Lib.hid hsum
  have hlnh := Lib.hid hln
  have htxh := Lib.hid htx
  have hst : Hid (TxO w w (.slice none 0 0) []) := Lib.hid ⟨World.ownsRow_nil _ _ _ _, Below.refl _ _⟩
  clear hA hsum hln htx
  go_enter Try.func32, Try.ntmps32
  go_wp2
  go_loopw [3, 4, 5, 6, 7, 8] (fun s3 s4 _ _ _ _ wr => ∃ (i : Nat) (v : Value) (xs : Txs), i ≤ n ∧ v = s3 ∧ s4 = .int .i64 i ∧ Hid (TxO w wr v xs) ∧ Hid (xs ++ unionT (ds.drop i) = unionT ds)) (fun _ s4 _ _ _ _ _ => n - (intOf s4).toNat)
  case atStart => exact ⟨0, _, [], Nat.zero_le _, rfl, rfl, hst, Lib.hid rfl⟩
  case round =>
    obtain ⟨i, v, xs, hin, rfl, rfl, hT, hU⟩ := hrel
    obtain ⟨wo, rfl⟩ : ∃ wo : World, wo = wr := ⟨_, rfl⟩
    clear hst
    by_cases hlt : i < n
    · obtain ⟨b, o, A1, n1, c1, d, rfl, hb, hd, -, hc, hnc, hcm, hS⟩ := (hAh.out.below hT.out.below).at_ (k := i) hlt
      have i1 : (0 : Int) ≤ (i : Int) := by omega
      have i2 : (i : Int) < (n : Int) := by omega
      have hdh := Lib.hid hd
      have hdl := hS.len
      have hn1 : n1 ≤ 1000000 := by rw [← hdl]; exact hlnh.out d (List.mem_of_getElem? hd)
      have hSh := Lib.hid hS
      clear hd hS
      go_wp2
      go_loopw [5, 6] (fun s5 s6 wr => ∃ (k : Nat) (kn : Bool), i + 1 ≤ k ∧ k ≤ n ∧ s6 = .int .i64 k ∧ s5 = .bool kn ∧ Hid (kn = true ↔ behindP ds i k) ∧ wr = wo) (fun _ s6 _ => n - (intOf s6).toNat)
      case atStart => exact ⟨i + 1, false, Nat.le_refl _, by omega, by go_num, rfl, Lib.hid (Iff.intro (fun h => (by cases h)) (fun ⟨j, x, h1, h2, _⟩ => absurd h1 (by omega))), rfl⟩
      case round =>
        obtain ⟨k, kn, hik, hkn, rfl, rfl, hbh, rfl⟩ := hrel
        obtain ⟨wo, rfl⟩ : ∃ wo : World, wo = wr := ⟨_, rfl⟩
        by_cases hlt2 : k < n
        · obtain ⟨b', o', A2, n2, c2, y, he, hb', hy, -, hc', hnc', hcm', hst'⟩ := (hAh.out.below hT.out.below).at_ (k := k) hlt2
          injection he with he
          injection he with he1 he2
          subst he1
          subst he2
          have i3 : (0 : Int) ≤ (k : Int) := by omega
          have i4 : (k : Int) < (n : Int) := by omega
          have hyl := hst'.len
          have hstep := behindP_step (i := i) (by omega) hy
          have hsteph := Lib.hid hstep
          clear hst' hy hstep
          cases kn
          · by_cases h0 : n2 = 0
            · subst h0
              have hye : y = [] := List.eq_nil_of_length_eq_zero hyl
              have hnew : Hid (false = true ↔ behindP ds i (k + 1)) := Lib.hid (by rw [hsteph.out, ← hbh.out, hye]; simp)
              go_wp2
              go_roundw
              case rel => exact ⟨k + 1, false, by omega, by omega, by go_num, rfl, hnew, trivial⟩
              case measure => simp [intOf]; omega
            · have hye : y ≠ [] := by rintro rfl; simp at hyl; omega
              have hnew : Hid (true = true ↔ behindP ds i (k + 1)) := Lib.hid (by rw [hsteph.out]; simp [hye])
              have h1 : (0 : Int) < (n2 : Int) := by omega
              have h2 : decide ((0 : Int) < (n2 : Int)) = true := by simpa using h1
              have h3 : decide (0 < n2) = true := by simp; omega
              go_wp2
              go_roundw
              case rel => exact ⟨k + 1, true, by omega, by omega, by go_num, by first | rfl | rw [h3], hnew, trivial⟩
              case measure => simp [intOf]; omega
          · have hnew : Hid (true = true ↔ behindP ds i (k + 1)) := Lib.hid (by rw [hsteph.out]; exact ⟨fun _ => .inl (hbh.out.1 rfl), fun _ => rfl⟩)
            go_wp2
            go_roundw
            case rel => exact ⟨k + 1, true, by omega, by omega, by go_num, rfl, hnew, trivial⟩
            case measure => simp [intOf]; omega
        · obtain rfl : k = n := by omega
          have hkn2 := behindP_end (ds := ds) (i := i) (kn := kn) (by rw [hl]; exact hbh.out)
          have hUs : unionT (ds.drop i) = partU d kn ++ unionT (ds.drop (i + 1)) := by rw [drop_at hdh.out, unionT_cons, ← hkn2]
          have hU2 := hU.out
          rw [hUs, ← List.append_assoc] at hU2
          have hpl : (partU d kn).length = n1 := by rw [partU_len, hdl]
          have hU2h := Lib.hid hU2
          have hplh := Lib.hid hpl
          have hbnd : Hid (xs.length + n1 ≤ 1000000000) := Lib.hid (by
            have := congrArg List.length hU2
            rw [List.length_append, List.length_append, hpl] at this
            have := hsumh.out
            omega)
          have h00 : Hid (TxO w wo v (xs ++ (partU d kn).take 0)) := Lib.hid (by simpa using hT.out)
          have hOp : Hid (∀ W : World, Strs W w.heap.size A1 n1 d → Calls Try.prog 23 #[.slice A1 n1 c1] W fun e w' => e = .returned (.bool (openB d)) ∧ W = w') := Lib.hid (fun W hW => rOpen_any A1 n1 c1 w.heap.size d W (by omega) (fun s hs => Nat.le_trans (htxh.out d (List.mem_of_getElem? hdh.out) s hs) (by unfold maxLen; omega)) hW)
          obtain ⟨op, hop⟩ : ∃ op, openB d = op := ⟨_, rfl⟩
          rw [hop] at hOp
          have hoph := Lib.hid hop
          have hbk := hT.out.below
          clear hkn2 hUs hU2 hpl hop
          go_wp2
          go_loopw [3, 7, 8] (fun s3 s7 _ wr => ∃ (k : Nat) (v : Value), k ≤ n1 ∧ v = s3 ∧ s7 = .int .i64 k ∧ Hid (TxO w wr v (xs ++ (partU d kn).take k))) (fun _ s7 _ _ => n1 - (intOf s7).toNat)
          case atStart => exact ⟨0, _, Nat.zero_le _, rfl, rfl, h00⟩
          case round =>
            obtain ⟨j, v, hj, rfl, rfl, hT2⟩ := hrel
            obtain ⟨wp, rfl⟩ : ∃ wp : World, wp = wr := ⟨_, rfl⟩
            clear h00
            have key : ∀ q : Addr, q.block < w.heap.size → wp.cell? q = wo.cell? q := fun q hq => (hT2.out.below.cell hq).trans (hbk.cell hq).symm
            have hSp := hSh.out.keep (w' := wp) key
            have c1' : wp.cell? ⟨b, o + i, none⟩ = some (.slice A1 n1 c1) := (key ⟨b, o + i, none⟩ hb).trans hc
            clear key
            by_cases hlt3 : j < n1
            · obtain ⟨b3, o3, s, rfl, hb3, hs, hcs⟩ := hSp.at_ hlt3
              have i3 : (0 : Int) ≤ (j : Int) := by omega
              have i4 : (j : Int) < (n1 : Int) := by omega
              have hpa := take_at (partU_at (bh := kn) hs)
              rw [hdl] at hpa
              have hOp2 := Lib.hid (hOp.out wp hSp)
              have hpah := Lib.hid hpa
              obtain ⟨tl, htl⟩ : ∃ tl, decide (j + 1 = n1) = tl := ⟨_, rfl⟩
              have htlh := Lib.hid htl
              have hw : ((j : Int) == (n1 : Int) - 1) = tl := by
                rw [← htl, Bool.eq_iff_iff]
                simp
                omega
              have hss : (str s).size ≤ 1000000 := by rw [str_size]; exact htxh.out d (List.mem_of_getElem? hdh.out) s (List.mem_of_getElem? hs)
              have hcat : ¬ 9223372036854775807 < (str s).size + 1 := by omega
              clear hpa hs hSp htl
              have hown := hT2.out.own
              have hbz := hT2.out.below.size
              have hmax : Hid ((xs ++ (partU d kn).take j).length + 1 ≤ maxLen ∧ ((xs ++ (partU d kn).take j).length + 1) * 16 ≤ 140737488355328) := Lib.hid (by
                have h1 := hbnd.out
                have h2 := hplh.out
                rw [List.length_append, List.length_take]
                unfold maxLen
                omega)
              rcases tl with _ | _
              · have htl2 : Hid (¬ j + 1 = n1) := Lib.hid (by have := htlh.out; simpa using this)
                have hp2 : Hid ((partU d kn).take (j + 1) = (partU d kn).take j ++ [s]) := Lib.hid (by rw [hpah.out]; simp [htl2.out])
                go_wp2_with (at_builtin; refine wpList_append_own_at _ rfl _ _ 22 rfl w.heap.size 9 i0 (.string ByteArray.empty) 1 16 Try.underlying22 hi hz0 hz1 hz2 rfl (by decide) v (xs ++ (partU d kn).take j).length _ rfl (hown.alloc _) ⟨wp.heap.size, 0, none⟩ 1 1 [.string (str s)] rfl rfl (cell_one_new _ _ _) (by simp [Value.oneCell']) hmax.out.1 hmax.out.2 (by simp; omega) ?_; intro v' w2 hown2 hg2 hnil2 hloc2; clear hnil2)
                go_roundw
                case rel => exact ⟨j + 1, v', by omega, rfl, by go_num, Lib.hid (by rw [hp2.out, ← List.append_assoc]; exact hT2.out.push (s := s) (by exact hown2) hg2)⟩
                case measure => simp [intOf]; omega
              · have htl2 : Hid (j + 1 = n1) := Lib.hid (by have := htlh.out; simpa using this)
                cases kn
                · skip
                  have hp2 : Hid ((partU d false).take (j + 1) = (partU d false).take j ++ [s]) := Lib.hid (by rw [hpah.out]; simp [])
                  go_wp2_with (at_builtin; refine wpList_append_own_at _ rfl _ _ 22 rfl w.heap.size 9 i0 (.string ByteArray.empty) 1 16 Try.underlying22 hi hz0 hz1 hz2 rfl (by decide) v (xs ++ (partU d false).take j).length _ rfl (hown.alloc _) ⟨wp.heap.size, 0, none⟩ 1 1 [.string (str s)] rfl rfl (cell_one_new _ _ _) (by simp [Value.oneCell']) hmax.out.1 hmax.out.2 (by simp; omega) ?_; intro v' w2 hown2 hg2 hnil2 hloc2; clear hnil2)
                  go_roundw
                  case rel => exact ⟨j + 1, v', by omega, rfl, by go_num, Lib.hid (by rw [hp2.out, ← List.append_assoc]; exact hT2.out.push (s := s) (by exact hown2) hg2)⟩
                  case measure => simp [intOf]; omega
                · cases op
                  · skip
                    have hp2 : Hid ((partU d true).take (j + 1) = (partU d true).take j ++ [s]) := Lib.hid (by rw [hpah.out]; simp [hoph.out])
                    go_wp2_with (first | (go_at_call 23; refine hOp2.out.mono ?_; rintro e w1 ⟨rfl, rfl⟩) | (at_builtin; refine wpList_append_own_at _ rfl _ _ 22 rfl w.heap.size 9 i0 (.string ByteArray.empty) 1 16 Try.underlying22 hi hz0 hz1 hz2 rfl (by decide) v (xs ++ (partU d true).take j).length _ rfl (hown.alloc _) ⟨wp.heap.size, 0, none⟩ 1 1 [.string (str s)] rfl rfl (cell_one_new _ _ _) (by simp [Value.oneCell']) hmax.out.1 hmax.out.2 (by simp; omega) ?_; intro v' w2 hown2 hg2 hnil2 hloc2; clear hnil2))
                    go_roundw
                    case rel => exact ⟨j + 1, v', by omega, rfl, by go_num, Lib.hid (by rw [hp2.out, ← List.append_assoc]; exact hT2.out.push (s := s) (by exact hown2) hg2)⟩
                    case measure => simp [intOf]; omega
                  · skip
                    have hp2 : Hid ((partU d true).take (j + 1) = (partU d true).take j ++ [s ++ [10]]) := Lib.hid (by rw [hpah.out]; simp [htl2.out, hoph.out])
                    go_wp2_with (first | (go_at_call 23; refine hOp2.out.mono ?_; rintro e w1 ⟨rfl, rfl⟩) | (at_builtin; refine wpList_append_own_at _ rfl _ _ 22 rfl w.heap.size 9 i0 (.string ByteArray.empty) 1 16 Try.underlying22 hi hz0 hz1 hz2 rfl (by decide) v (xs ++ (partU d true).take j).length _ rfl (hown.alloc _) ⟨wp.heap.size, 0, none⟩ 1 1 [.string (str s ++ ⟨#[10]⟩)] rfl rfl (cell_one_new _ _ _) (by simp [Value.oneCell']) hmax.out.1 hmax.out.2 (by simp; omega) ?_; intro v' w2 hown2 hg2 hnil2 hloc2; clear hnil2))
                    go_roundw
                    case rel => exact ⟨j + 1, v', by omega, rfl, by go_num, Lib.hid (by rw [hp2.out, ← List.append_assoc]; exact hT2.out.push (s := s ++ [10]) (by rw [← str_feed]; exact hown2) hg2)⟩
                    case measure => simp [intOf]; omega
            · obtain rfl : j = n1 := by omega
              have hfin : Hid (TxO w wp v (xs ++ partU d kn)) := Lib.hid (by have := hT2.out; rwa [List.take_of_length_le (by rw [hplh.out]; exact Nat.le_refl _)] at this)
              go_wp2
              go_roundw
              case rel => exact ⟨i + 1, v, _, by omega, rfl, by go_num, hfin, hU2h⟩
              case measure => simp [intOf]; omega
    · obtain rfl : i = n := by omega
      have ht : ds.drop i = [] := List.drop_eq_nil_iff.2 (by omega)
      have hU2 : xs = unionT ds := by have := hU.out; rw [ht] at this; simpa [unionT] using this
      have hU3 := Lib.hid hU2
      clear hU2
      go_wp2
      go_ret
      rw [← hU3.out]
      exact hT.out.out
end Go.Proofs.Ytfennjefkfblgaa
