/- Proved here: texts joined: PickUn, PickPc. -/
import Derived.Test.YtoephlkfejcadaaGreatBf09
import Derived.Test.YtoephlkfejcadaaGreatBf21
import Derived.Test.YtoephlkfejcadaaGreatBf22
import Derived.Deep.DeepCutAuto
import Derived.Outline
/- Proved here: the contract of the document's own answer of layer 7: union. -/
namespace Go.Proofs.YtoephlkfejcadaaGreat
open Go.RowKit
set_option linter.unusedVariables false

/-- A list, ended if something stands behind it. -/
def partU (d : Txs) (bh : Bool) : Txs := if bh then closed d else d
theorem unionT_cons (d : Txs) (ds : List Txs) : unionT (d :: ds) = partU d (ds.any fun x => !x.isEmpty) ++ unionT ds := rfl
theorem partU_at {d : Txs} {bh : Bool} {k : Nat} {s : Tx} (h : d[k]? = some s) : (partU d bh)[k]? = some (if k + 1 = d.length ∧ bh = true ∧ openB d = true then s ++ [10] else s) := by
  unfold partU
  cases bh
  · simp [h]
  · have hk := (List.getElem?_eq_some_iff.1 h).1
    have hlast : d.getLast? = some (d[d.length - 1]'(by omega)) := by rw [List.getLast?_eq_getElem?, List.getElem?_eq_getElem]
    obtain ⟨t, ht⟩ : ∃ t, d[d.length - 1]'(by omega) = t := ⟨_, rfl⟩
    rw [ht] at hlast
    have ho : openB d = !endedB t := by unfold openB; rw [hlast]
    unfold closed
    rw [if_pos rfl, hlast]
    dsimp only
    by_cases he : endedB t = true
    · rw [if_pos he, h, ho, he]
      simp
    · rw [if_neg he, ho]
      by_cases hkl : k + 1 = d.length
      · have e1 : d.length - 1 = k := by omega
        have : s = t := by
          rw [← ht]
          obtain ⟨h1, h2⟩ := List.getElem?_eq_some_iff.1 h
          rw [← h2]
          congr 1
          omega
        subst this
        have hl : d.dropLast.length = k := by simp; omega
        rw [List.getElem?_append_right (by omega), hl, Nat.sub_self]
        simp [he, hkl]
      · rw [List.getElem?_append_left (by simp; omega), if_neg (fun h => hkl h.1), List.getElem?_dropLast, if_pos (by omega), h]
theorem partU_len (d : Txs) (bh : Bool) : (partU d bh).length = d.length := by
  unfold partU
  split
  · exact closed_len d
  · rfl
/-- Does something stand behind place i, ahead of place k? -/
def behindP (ds : List Txs) (i k : Nat) : Prop := ∃ j x, i < j ∧ j < k ∧ ds[j]? = some x ∧ x ≠ []
theorem behindP_step {ds : List Txs} {i k : Nat} {x : Txs} (hik : i < k) (h : ds[k]? = some x) : behindP ds i (k + 1) ↔ behindP ds i k ∨ x ≠ [] := by
  constructor
  · rintro ⟨j, y, h1, h2, h3, h4⟩
    rcases Nat.lt_or_ge j k with h5 | h5
    · exact .inl ⟨j, y, h1, h5, h3, h4⟩
    · obtain rfl : j = k := by omega
      rw [h] at h3
      injection h3 with h3
      subst h3
      exact .inr h4
  · rintro (⟨j, y, h1, h2, h3, h4⟩ | h4)
    · exact ⟨j, y, h1, by omega, h3, h4⟩
    · exact ⟨k, x, hik, by omega, h, h4⟩
theorem behindP_end {ds : List Txs} {i : Nat} {kn : Bool} (h : kn = true ↔ behindP ds i ds.length) : kn = (ds.drop (i + 1)).any fun x => !x.isEmpty := by
  rw [Bool.eq_iff_iff, h, List.any_eq_true]
  constructor
  · rintro ⟨j, x, h1, h2, h3, h4⟩
    refine ⟨x, List.mem_of_getElem? (i := j - (i + 1)) (by rw [List.getElem?_drop, show i + 1 + (j - (i + 1)) = j by omega]; exact h3), by cases x <;> simp_all⟩
  · rintro ⟨x, h1, h2⟩
    obtain ⟨j, hj⟩ := List.mem_iff_getElem?.1 h1
    rw [List.getElem?_drop] at hj
    exact ⟨i + 1 + j, x, by omega, (List.getElem?_eq_some_iff.1 hj).1, hj, by rintro rfl; simp at h2⟩
set_option maxRecDepth 100000 in
set_option maxHeartbeats 16000000 in
theorem rUnionO_any (A : Option Addr) (n c : Nat) (rows : List Slc) (ds : List Txs) (w : World) (hn : n ≤ 100000) (hln : ∀ d ∈ ds, d.length ≤ 1000000) (htx : ∀ d ∈ ds, ∀ s ∈ d, s.length ≤ 1000000) (hsum : (unionT ds).length ≤ 1000000000) (hA : RowsT w w.heap.size A n rows ds) :
    Calls Tryz.prog 87 #[.slice A n c] w fun e w' => ∃ v, e = .returned v ∧ TxO w w' v (unionT ds) := by
  have hl := hA.len
  obtain ⟨i0, hi, hzz⟩ := Option.map_eq_some_iff.1 infoStr
  simp only [Prod.mk.injEq] at hzz
  obtain ⟨hz0, hz1, hz2⟩ := hzz
  have hAh := Lib.hid hA
  have hsumh := Lib.hid hsum
  have hlnh := Lib.hid hln
  have htxh := Lib.hid htx
  have hst : Hid (TxO w w (.slice none 0 0) []) := Lib.hid ⟨World.ownsRow_nil _ _ _ _, Below.refl _ _⟩
  clear hA hsum hln htx
  go_enter Tryz.func87, Tryz.ntmps87
  go_wp2
  go_loopw [3, 4, 5, 6, 7, 8] (fun s3 s4 _ _ _ _ wr => ∃ (i : Nat) (v : Value) (xs : Txs), i ≤ n ∧ v = s3 ∧ s4 = .int .i64 i ∧ Hid (TxO w wr v xs) ∧ Hid (xs ++ unionT (ds.drop i) = unionT ds)) (fun _ s4 _ _ _ _ _ => n - (intOf s4).toNat)
  case atStart => exact ⟨0, _, [], Nat.zero_le _, rfl, rfl, hst, Lib.hid rfl⟩
  case round =>
    obtain ⟨i, v, xs, hin, rfl, rfl, hT, hU⟩ := hrel
    obtain ⟨wo, rfl⟩ : ∃ wo : World, wo = wr := ⟨_, rfl⟩
    clear hst
    by_cases hlt : i < n
    · obtain ⟨b, o, A1, n1, c1, d, rfl, hb, hd, -, hc, hnc, hcm, hS⟩ := (hAh.out.below hT.out.below).at_ (k := i) hlt
      have i1 : (0 : Int) ≤ (i : Int) := by omega
      have i2 : (i : Int) < (n : Int) := by omega
      have hdh := Lib.hid hd
      have hdl := hS.len
      have hn1 : n1 ≤ 1000000 := by rw [← hdl]; exact hlnh.out d (List.mem_of_getElem? hd)
      have hSh := Lib.hid hS
      clear hd hS
      go_wp2
      go_loopw [5, 6] (fun s5 s6 wr => ∃ (k : Nat) (kn : Bool), i + 1 ≤ k ∧ k ≤ n ∧ s6 = .int .i64 k ∧ s5 = .bool kn ∧ Hid (kn = true ↔ behindP ds i k) ∧ wr = wo) (fun _ s6 _ => n - (intOf s6).toNat)
      case atStart => exact ⟨i + 1, false, Nat.le_refl _, by omega, by go_num, rfl, Lib.hid (Iff.intro (fun h => (by cases h)) (fun ⟨j, x, h1, h2, _⟩ => absurd h1 (by omega))), rfl⟩
      case round =>
        obtain ⟨k, kn, hik, hkn, rfl, rfl, hbh, rfl⟩ := hrel
        obtain ⟨wo, rfl⟩ : ∃ wo : World, wo = wr := ⟨_, rfl⟩
        by_cases hlt2 : k < n
        · obtain ⟨b', o', A2, n2, c2, y, he, hb', hy, -, hc', hnc', hcm', hst'⟩ := (hAh.out.below hT.out.below).at_ (k := k) hlt2
          injection he with he
          injection he with he1 he2
          subst he1
          subst he2
          have i3 : (0 : Int) ≤ (k : Int) := by omega
          have i4 : (k : Int) < (n : Int) := by omega
          have hyl := hst'.len
          have hstep := behindP_step (i := i) (by omega) hy
          have hsteph := Lib.hid hstep
          clear hst' hy hstep
          cases kn
          · by_cases h0 : n2 = 0
            · subst h0
              have hye : y = [] := List.eq_nil_of_length_eq_zero hyl
              have hnew : Hid (false = true ↔ behindP ds i (k + 1)) := Lib.hid (by rw [hsteph.out, ← hbh.out, hye]; simp)
              go_wp2
              go_roundw
              case rel => exact ⟨k + 1, false, by omega, by omega, by go_num, rfl, hnew, trivial⟩
              case measure => simp [intOf]; omega
            · have hye : y ≠ [] := by rintro rfl; simp at hyl; omega
              have hnew : Hid (true = true ↔ behindP ds i (k + 1)) := Lib.hid (by rw [hsteph.out]; simp [hye])
              have h1 : (0 : Int) < (n2 : Int) := by omega
              have h2 : decide ((0 : Int) < (n2 : Int)) = true := by simpa using h1
              have h3 : decide (0 < n2) = true := by simp; omega
              go_wp2
              go_roundw
              case rel => exact ⟨k + 1, true, by omega, by omega, by go_num, by first | rfl | rw [h3], hnew, trivial⟩
              case measure => simp [intOf]; omega
          · have hnew : Hid (true = true ↔ behindP ds i (k + 1)) := Lib.hid (by rw [hsteph.out]; exact ⟨fun _ => .inl (hbh.out.1 rfl), fun _ => rfl⟩)
            go_wp2
            go_roundw
            case rel => exact ⟨k + 1, true, by omega, by omega, by go_num, rfl, hnew, trivial⟩
            case measure => simp [intOf]; omega
        · obtain rfl : k = n := by omega
          have hkn2 := behindP_end (ds := ds) (i := i) (kn := kn) (by rw [hl]; exact hbh.out)
          have hUs : unionT (ds.drop i) = partU d kn ++ unionT (ds.drop (i + 1)) := by rw [drop_at hdh.out, unionT_cons, ← hkn2]
          have hU2 := hU.out
          rw [hUs, ← List.append_assoc] at hU2
          have hpl : (partU d kn).length = n1 := by rw [partU_len, hdl]
          have hU2h := Lib.hid hU2
          have hplh := Lib.hid hpl
          have hbnd : Hid (xs.length + n1 ≤ 1000000000) := Lib.hid (by
            have := congrArg List.length hU2
            rw [List.length_append, List.length_append, hpl] at this
            have := hsumh.out
            omega)
          have h00 : Hid (TxO w wo v (xs ++ (partU d kn).take 0)) := Lib.hid (by simpa using hT.out)
          have hOp : Hid (∀ W : World, Strs W w.heap.size A1 n1 d → Calls Tryz.prog 103 #[.slice A1 n1 c1] W fun e w' => e = .returned (.bool (openB d)) ∧ W = w') := Lib.hid (fun W hW => rOpen_any A1 n1 c1 w.heap.size d W (by omega) (fun s hs => Nat.le_trans (htxh.out d (List.mem_of_getElem? hdh.out) s hs) (by unfold maxLen; omega)) hW)
          obtain ⟨op, hop⟩ : ∃ op, openB d = op := ⟨_, rfl⟩
          rw [hop] at hOp
          have hoph := Lib.hid hop
          have hbk := hT.out.below
          clear hkn2 hUs hU2 hpl hop
          go_wp2
          go_loopw [3, 7, 8] (fun s3 s7 _ wr => ∃ (k : Nat) (v : Value), k ≤ n1 ∧ v = s3 ∧ s7 = .int .i64 k ∧ Hid (TxO w wr v (xs ++ (partU d kn).take k))) (fun _ s7 _ _ => n1 - (intOf s7).toNat)
          case atStart => exact ⟨0, _, Nat.zero_le _, rfl, rfl, h00⟩
          case round =>
            obtain ⟨j, v, hj, rfl, rfl, hT2⟩ := hrel
            obtain ⟨wp, rfl⟩ : ∃ wp : World, wp = wr := ⟨_, rfl⟩
            clear h00
            have key : ∀ q : Addr, q.block < w.heap.size → wp.cell? q = wo.cell? q := fun q hq => (hT2.out.below.cell hq).trans (hbk.cell hq).symm
            have hSp := hSh.out.keep (w' := wp) key
            have c1' : wp.cell? ⟨b, o + i, none⟩ = some (.slice A1 n1 c1) := (key ⟨b, o + i, none⟩ hb).trans hc
            clear key
            by_cases hlt3 : j < n1
            · obtain ⟨b3, o3, s, rfl, hb3, hs, hcs⟩ := hSp.at_ hlt3
              have i3 : (0 : Int) ≤ (j : Int) := by omega
              have i4 : (j : Int) < (n1 : Int) := by omega
              have hpa := take_at (partU_at (bh := kn) hs)
              rw [hdl] at hpa
              have hOp2 := Lib.hid (hOp.out wp hSp)
              have hpah := Lib.hid hpa
              obtain ⟨tl, htl⟩ : ∃ tl, decide (j + 1 = n1) = tl := ⟨_, rfl⟩
              have htlh := Lib.hid htl
              have hw : ((j : Int) == (n1 : Int) - 1) = tl := by
                rw [← htl, Bool.eq_iff_iff]
                simp
                omega
              have hss : (str s).size ≤ 1000000 := by rw [str_size]; exact htxh.out d (List.mem_of_getElem? hdh.out) s (List.mem_of_getElem? hs)
              have hcat : ¬ 9223372036854775807 < (str s).size + 1 := by omega
              clear hpa hs hSp htl
              have hown := hT2.out.own
              have hbz := hT2.out.below.size
              have hmax : Hid ((xs ++ (partU d kn).take j).length + 1 ≤ maxLen ∧ ((xs ++ (partU d kn).take j).length + 1) * 16 ≤ 140737488355328) := Lib.hid (by
                have h1 := hbnd.out
                have h2 := hplh.out
                rw [List.length_append, List.length_take]
                unfold maxLen
                omega)
              rcases tl with _ | _
              · have htl2 : Hid (¬ j + 1 = n1) := Lib.hid (by have := htlh.out; simpa using this)
                have hp2 : Hid ((partU d kn).take (j + 1) = (partU d kn).take j ++ [s]) := Lib.hid (by rw [hpah.out]; simp [htl2.out])
                go_wp2_with (at_builtin; refine wpList_append_own_at _ rfl _ _ 22 rfl w.heap.size 9 i0 (.string ByteArray.empty) 1 16 Tryz.underlying22 hi hz0 hz1 hz2 rfl (by decide) v (xs ++ (partU d kn).take j).length _ rfl (hown.alloc _) ⟨wp.heap.size, 0, none⟩ 1 1 [.string (str s)] rfl rfl (cell_one_new _ _ _) (by simp [Value.oneCell']) hmax.out.1 hmax.out.2 (by simp; omega) ?_; intro v' w2 hown2 hg2 hnil2 hloc2; clear hnil2)
                go_roundw
                case rel => exact ⟨j + 1, v', by omega, rfl, by go_num, Lib.hid (by rw [hp2.out, ← List.append_assoc]; exact hT2.out.push (s := s) (by exact hown2) hg2)⟩
                case measure => simp [intOf]; omega
              · have htl2 : Hid (j + 1 = n1) := Lib.hid (by have := htlh.out; simpa using this)
                cases kn
                · skip
                  have hp2 : Hid ((partU d false).take (j + 1) = (partU d false).take j ++ [s]) := Lib.hid (by rw [hpah.out]; simp [])
                  go_wp2_with (at_builtin; refine wpList_append_own_at _ rfl _ _ 22 rfl w.heap.size 9 i0 (.string ByteArray.empty) 1 16 Tryz.underlying22 hi hz0 hz1 hz2 rfl (by decide) v (xs ++ (partU d false).take j).length _ rfl (hown.alloc _) ⟨wp.heap.size, 0, none⟩ 1 1 [.string (str s)] rfl rfl (cell_one_new _ _ _) (by simp [Value.oneCell']) hmax.out.1 hmax.out.2 (by simp; omega) ?_; intro v' w2 hown2 hg2 hnil2 hloc2; clear hnil2)
                  go_roundw
                  case rel => exact ⟨j + 1, v', by omega, rfl, by go_num, Lib.hid (by rw [hp2.out, ← List.append_assoc]; exact hT2.out.push (s := s) (by exact hown2) hg2)⟩
                  case measure => simp [intOf]; omega
                · cases op
                  · skip
                    have hp2 : Hid ((partU d true).take (j + 1) = (partU d true).take j ++ [s]) := Lib.hid (by rw [hpah.out]; simp [hoph.out])
                    go_wp2_with (first | (go_at_call 103; refine hOp2.out.mono ?_; rintro e w1 ⟨rfl, rfl⟩) | (at_builtin; refine wpList_append_own_at _ rfl _ _ 22 rfl w.heap.size 9 i0 (.string ByteArray.empty) 1 16 Tryz.underlying22 hi hz0 hz1 hz2 rfl (by decide) v (xs ++ (partU d true).take j).length _ rfl (hown.alloc _) ⟨wp.heap.size, 0, none⟩ 1 1 [.string (str s)] rfl rfl (cell_one_new _ _ _) (by simp [Value.oneCell']) hmax.out.1 hmax.out.2 (by simp; omega) ?_; intro v' w2 hown2 hg2 hnil2 hloc2; clear hnil2))
                    go_roundw
                    case rel => exact ⟨j + 1, v', by omega, rfl, by go_num, Lib.hid (by rw [hp2.out, ← List.append_assoc]; exact hT2.out.push (s := s) (by exact hown2) hg2)⟩
                    case measure => simp [intOf]; omega
                  · skip
                    have hp2 : Hid ((partU d true).take (j + 1) = (partU d true).take j ++ [s ++ [10]]) := Lib.hid (by rw [hpah.out]; simp [htl2.out, hoph.out])
                    go_wp2_with (first | (go_at_call 103; refine hOp2.out.mono ?_; rintro e w1 ⟨rfl, rfl⟩) | (at_builtin; refine wpList_append_own_at _ rfl _ _ 22 rfl w.heap.size 9 i0 (.string ByteArray.empty) 1 16 Tryz.underlying22 hi hz0 hz1 hz2 rfl (by decide) v (xs ++ (partU d true).take j).length _ rfl (hown.alloc _) ⟨wp.heap.size, 0, none⟩ 1 1 [.string (str s ++ ⟨#[10]⟩)] rfl rfl (cell_one_new _ _ _) (by simp [Value.oneCell']) hmax.out.1 hmax.out.2 (by simp; omega) ?_; intro v' w2 hown2 hg2 hnil2 hloc2; clear hnil2))
                    go_roundw
                    case rel => exact ⟨j + 1, v', by omega, rfl, by go_num, Lib.hid (by rw [hp2.out, ← List.append_assoc]; exact hT2.out.push (s := s ++ [10]) (by rw [← str_feed]; exact hown2) hg2)⟩
                    case measure => simp [intOf]; omega
            · obtain rfl : j = n1 := by omega
              have hfin : Hid (TxO w wp v (xs ++ partU d kn)) := Lib.hid (by have := hT2.out; rwa [List.take_of_length_le (by rw [hplh.out]; exact Nat.le_refl _)] at this)
              go_wp2
              go_roundw
              case rel => exact ⟨i + 1, v, _, by omega, rfl, by go_num, hfin, hU2h⟩
              case measure => simp [intOf]; omega
    · obtain rfl : i = n := by omega
      have ht : ds.drop i = [] := List.drop_eq_nil_iff.2 (by omega)
      have hU2 : xs = unionT ds := by have := hU.out; rw [ht] at this; simpa [unionT] using this
      have hU3 := Lib.hid hU2
      clear hU2
      go_wp2
      go_ret
      rw [← hU3.out]
      exact ⟨_, rfl, hT.out⟩

theorem rUnion_any (A : Option Addr) (n c : Nat) (rows : List Slc) (ds : List Txs) (w : World) (hn : n ≤ 100000) (hln : ∀ d ∈ ds, d.length ≤ 1000000) (htx : ∀ d ∈ ds, ∀ s ∈ d, s.length ≤ 1000000) (hsum : (unionT ds).length ≤ 1000000000) (hA : RowsT w w.heap.size A n rows ds) :
    Calls Tryz.prog 87 #[.slice A n c] w fun e w' => TxsOut w w' e (unionT ds) :=
  (rUnionO_any A n c rows ds w hn hln htx hsum hA).mono fun e w' h => by
    obtain ⟨v, rfl, hT⟩ := h
    exact hT.out
end Go.Proofs.YtoephlkfejcadaaGreat
/- Proved here: the contract of the document's own answer of layer 7: Piece. -/
namespace Go.Proofs.YtoephlkfejcadaaGreat
open Go.RowKit
set_option linter.unusedVariables false

/-- A piece that a call tells, that stands whatever becomes of the blocks of F. -/
def PieceOutF (F : Nat → Prop) (w w' : World) (e : Ending) (p : Pc) : Prop :=
  ∃ v : PcV, e = .returned (.agg #[.bool p.1, .slice v.1.1 v.1.2.1 v.1.2.2, .slice v.2.1.1 v.2.1.2.1 v.2.1.2.2, .slice v.2.2.1 v.2.2.2.1 v.2.2.2.2]) ∧ (∀ w2, But F w' w2 → PcR w2 w2.heap.size v p) ∧ Below w.heap.size w w'
theorem PieceOutF.out {F : Nat → Prop} {w w' : World} {e : Ending} {p : Pc} (h : PieceOutF F w w' e p) : PieceOut w w' e p := by
  obtain ⟨v, h1, h2, h3⟩ := h
  exact ⟨v, h1, h2 _ (But.refl _ _), h3⟩
theorem piece_doneF {F : Nat → Prop} {w w1 : World} {L : Nat} {p : Pc} {v : PcV} (hL : w.heap.size ≤ L) (hb : Below w.heap.size w w1) (h : ∀ w', But (fun k => k = L ∨ F k) w1 w' → PcR w' w'.heap.size v p) (u0 u1 u2 u3 : Value) :
    PieceOutF F w ((((w1.setCell ⟨L, 0, none⟩ u0).setCell ⟨L, 1, none⟩ u1).setCell ⟨L, 2, none⟩ u2).setCell ⟨L, 3, none⟩ u3) (.returned (.agg #[.bool p.1, .slice v.1.1 v.1.2.1 v.1.2.2, .slice v.2.1.1 v.2.1.2.1 v.2.1.2.2, .slice v.2.2.1 v.2.2.2.1 v.2.2.2.2])) p :=
  ⟨v, rfl, fun w2 h2 => h w2 (((But.piece w1 L u0 u1 u2 u3).more (F' := fun k => k = L ∨ F k) fun k e => .inl e).trans h2 fun k e => .inl (.inr e)), hb.trans ((But.piece w1 L u0 u1 u2 u3).below hb.size (by rintro k rfl; exact hL))⟩
theorem TxR.butB {G : Nat → Prop} {B : Nat} {w1 w' : World} {r : Slc} {ss : Txs} (h : TxR w1 B r ss) (hB : B ≤ w1.heap.size) (hb : But G w1 w') (hG : ∀ k, G k → B ≤ k) : TxR w' w'.heap.size r ss := by
  have hs := hb.size
  exact (h.keep fun p hp => World.cell?_of_block (hb.block p.block (by omega) (fun e => by have := hG _ e; omega))).more (by omega)
/-- What a call has made stands, but for blocks that were there. -/
theorem TxO.stayF {F : Nat → Prop} {w w1 w2 : World} {A : Option Addr} {n c : Nat} {xs : Txs} (h : TxO w w1 (.slice A n c) xs) (hb : But F w1 w2) (hF : ∀ k, F k → k < w.heap.size) : TxR w2 w2.heap.size (A, n, c) xs := by
  have h1 := ownsRow_kept h.own (w' := w2) fun k e => hb.block k (h.own.lt k e).2 (fun hf => by have := hF k hf; have := (h.own.lt k e).1; omega)
  obtain ⟨A', c', e, r1, r2, r3⟩ := own_slice h1
  injection e with e1 e2 e3
  subst e1
  subst e2
  subst e3
  exact ⟨r1, r2, r3⟩

set_option maxRecDepth 100000 in
set_option maxHeartbeats 4000000 in
theorem rPieceF_any (F : Nat → Prop) (B : Nat) (A0 : Option Addr) (n0 c0 : Nat) (base : Txs) (A : Option Addr) (n c : Nat) (rows : List Slc) (ps : List Txs) (fav : Int) (un : Bool) (w : World) (hnc : n ≤ c) (hcm : c ≤ maxLen) (hn : n ≤ 1000) (hfav : inR64 fav) (hsm : smallT base ps) (hB : B ≤ w.heap.size) (hF : ∀ k, F k → B ≤ k ∧ k < w.heap.size) (hA0 : TxR w B (A0, n0, c0) base) (hA : RowsT w w.heap.size A n rows ps) (hAB : ∀ (k : Nat) (r : Slc) (ss : Txs), rows[k]? = some r → ps[k]? = some ss → TxR w B r ss) (hAs : ∀ w2, But F w w2 → RowsT w2 w2.heap.size A n rows ps) :
    Calls Tryz.prog 48 #[.slice A0 n0 c0, .slice A n c, .agg #[.int .i64 fav, .bool un]] w fun e w' => PieceOutF F w w' e (pieceD base ps fav un) := by
  obtain ⟨W0, hW0⟩ : ∃ W0, W0 = ((w.alloc (.cells #[.int .i64 fav, .bool un] 36)).alloc (.cells #[.bool false, .slice none 0 0, .slice none 0 0, .slice none 0 0] 44)) := ⟨_, rfl⟩
  have hb0 : Below w.heap.size w W0 := by rw [hW0]; exact ((Below.refl _ w).alloc (Nat.le_refl _) _).alloc (by simp) _
  have hD := Lib.hid (rDif_anyB B A0 n0 c0 base A n c rows ps W0 (Nat.le_trans hA0.1 hA0.2.1) (by omega) ((hA0.below (hb0.mono hB)).more (Nat.le_trans hB hb0.size)).2.2 (hA.up hb0) (Nat.le_trans hB hb0.size) (fun k r ss a b => (hAB k r ss a b).below (hb0.mono hB)))
  have hb0h := Lib.hid hb0
  have hW0h := Lib.hid hW0
  have hA0h := Lib.hid hA0
  have hAh := Lib.hid hA
  have hABh := Lib.hid hAB
  have hAsh := Lib.hid hAs
  have hBh := Lib.hid hB
  have hFh := Lib.hid hF
  have hGh : Hid (∀ k, (k = w.heap.size + 1 ∨ F k) → B ≤ k) := Lib.hid (by rintro k (rfl | h); omega; exact (hF k h).1)
  have hOld : Hid (∀ (r : Slc) (ss : Txs) (w1 w' : World), TxR w B r ss → Below w.heap.size w w1 → But (fun k => k = w.heap.size + 1 ∨ F k) w1 w' → TxR w' w'.heap.size r ss) := Lib.hid (fun r ss w1 w' h hb hb' => (h.below (hb.mono hB)).butB (Nat.le_trans hB hb.size) hb' hGh.out)
  have hln := hA.len
  have hlnh := Lib.hid hln
  obtain ⟨p, hp⟩ : ∃ p, pieceD base ps fav un = p := ⟨_, rfl⟩
  have hph := Lib.hid hp
  rw [hp]
  clear hb0 hA0 hA hAB hAs hB hF hp
  go_enter Tryz.func48, Tryz.ntmps48
  go_upto_region 1 with fail
  rw [← hW0h.out]
  have hW1 : Hid (∀ w1 : World, Below W0.heap.size W0 w1 → w1.heap[w.heap.size]? = some (.cells #[.int .i64 fav, .bool un] 36 (0, 0)) ∧ w1.heap[w.heap.size + 1]? = some (.cells #[.bool false, .slice none 0 0, .slice none 0 0, .slice none 0 0] 44 (0, 0)) ∧ Below w.heap.size w w1) := Lib.hid (fun w1 hb => by
    have hs : W0.heap.size = w.heap.size + 2 := by rw [hW0h.out]; simp
    refine ⟨(hb.block _ (by omega)).trans ?_, (hb.block _ (by omega)).trans ?_, hb0h.out.trans (hb.mono hb0h.out.size)⟩
    · rw [hW0h.out]
      exact (Below.heap_alloc _ _ _ (by simp)).trans (Go.Deep.blk_alloc_new w _)
    · rw [hW0h.out]
      have := Go.Deep.blk_alloc_new (w.alloc (.cells #[.int .i64 fav, .bool un] 36)) (.cells #[.bool false, .slice none 0 0, .slice none 0 0, .slice none 0 0] 44)
      simpa using this)
  clear hW0
  rcases hds : diffs base ps with _ | ⟨d, _ | ⟨d2, ds⟩⟩
  · have hpe : p = tPc base := by rw [← hph.out]; unfold pieceD; rw [hds]
    have hpeh := Lib.hid hpe
    have hdsh := Lib.hid hds
    clear hpe hds
    go_wp2_with (go_at_call 86; refine hD.out.mono ?_; rintro e w1 ⟨A1, n1, c1, rs, rfl, h3, h4, h5, h5b, h6⟩; have hn1 := h5.len; rw [hdsh.out] at hn1; have hn1' : 0 = n1 := hn1; subst hn1'; obtain ⟨k0, k1, k2⟩ := hW1.out w1 h6; obtain ⟨e0, e1, e2, e3, z0, z1, z2, z3⟩ := piece_at k1; have k2h := Lib.hid k2; have k1h := Lib.hid k1; clear k1 k2 h6 h5b)
    refine bodyPost_ret (v := .agg #[.bool false, .slice A0 n0 c0, .slice none 0 0, .slice none 0 0]) (by simp [results, Tryz.results48, go_sem, World.cell?_setCell_same', e0, e1, e2, e3]) rfl ?_
    rw [hpeh.out]
    exact piece_doneF (v := ((A0, n0, c0), (none, 0, 0), (none, 0, 0))) (by omega) k2h.out (fun w' hb' => PcR.text (hOld.out _ _ _ _ hA0h.out k2h.out hb')) _ _ _ _
  · have hpe : p = tPc d := by rw [← hph.out]; unfold pieceD; rw [hds]
    have hpeh := Lib.hid hpe
    have hdsh := Lib.hid hds
    clear hpe hds
    go_wp2_with (go_at_call 86; refine hD.out.mono ?_; rintro e w1 ⟨A1, n1, c1, rs, rfl, h3, h4, h5, h5b, h6⟩; have hn1 := h5.len; rw [hdsh.out] at hn1; have hn1' : 1 = n1 := hn1; subst hn1'; obtain ⟨k0, k1, k2⟩ := hW1.out w1 h6; obtain ⟨e0, e1, e2, e3, z0, z1, z2, z3⟩ := piece_at k1; have k2h := Lib.hid k2; have k1h := Lib.hid k1; obtain ⟨b1, o1, A2, n2, c2, dd, rfl, hb1, hdd, hrw, hcd, hn2, hc2, hS2⟩ := h5.at_ (k := 0) (by omega); have hT9 := h5b 0 _ _ hrw hdd; rw [hdsh.out] at hdd; have hdd' : d = dd := (by simpa using hdd); subst hdd'; have hcd' : w1.cell? ⟨b1, o1, none⟩ = some (.slice A2 n2 c2) := hcd; have hTd : Hid (TxR w1 B (A2, n2, c2) d) := Lib.hid hT9; clear k1 k2 h6 h5 h5b hdd hS2 hn1 hrw hT9)
    refine bodyPost_ret (v := .agg #[.bool false, .slice A2 n2 c2, .slice none 0 0, .slice none 0 0]) (by simp [results, Tryz.results48, go_sem, World.cell?_setCell_same', e0, e1, e2, e3]) rfl ?_
    rw [hpeh.out]
    exact piece_doneF (v := ((A2, n2, c2), (none, 0, 0), (none, 0, 0))) (by omega) k2h.out (fun w' hb' => PcR.text (hTd.out.butB (Nat.le_trans hBh.out k2h.out.size) hb' hGh.out)) _ _ _ _
  · have hpe : p = if 1 ≤ fav ∧ fav ≤ ps.length then tPc ((ps[(fav - 1).toNat]?).getD []) else if un = true then tPc (unionT (d :: d2 :: ds)) else cPc base ps := by rw [← hph.out]; unfold pieceD; rw [hds]
    have hpeh := Lib.hid hpe
    have hdsh := Lib.hid hds
    obtain ⟨m, hm⟩ : ∃ m, ds.length + 2 = m := ⟨_, rfl⟩
    have hm2 : 2 ≤ m := by omega
    have e5 : ((m : Int) == 0) = false := by simp; omega
    have e6 : ((m : Int) == 1) = false := by simp; omega
    clear hpe hds
    obtain ⟨q1, q2, q3⟩ := unionT_small hsm (by omega)
    rw [hdsh.out] at q1 q2 q3
    have hml : Hid (m ≤ 1000) := Lib.hid (by have := diffs_len base ps; rw [hdsh.out] at this; simp at this; omega)
    have hu1 := Lib.hid q1
    have hu2 := Lib.hid q2
    have hu3 := Lib.hid q3
    clear q1 q2 q3
    unfold inR64 at hfav
    by_cases hf : 1 ≤ fav ∧ fav ≤ ps.length
    · obtain ⟨k, rfl⟩ : ∃ k : Nat, fav = (k : Int) + 1 := ⟨(fav - 1).toNat, by omega⟩
      have hkn : k < n := by omega
      obtain ⟨b2, o2, A2, n2, c2, x, rfl, hb2, hx, hrw, hc2, hn2, hc2', hS2⟩ := hAh.out.at_ hkn
      have hpe2 : Hid (p = tPc x) := Lib.hid (by rw [hpeh.out, if_pos hf, show ((k : Int) + 1 - 1).toNat = k by omega, hx]; rfl)
      have hTx : Hid (TxR w B (A2, n2, c2) x) := Lib.hid (hABh.out k _ _ hrw hx)
      have f1 : decide ((0 : Int) < (k : Int) + 1) = true := decide_eq_true (by omega)
      have f2 : decide ((k : Int) + 1 ≤ (n : Int)) = true := decide_eq_true (by omega)
      have i1 : (0 : Int) ≤ (k : Int) := by omega
      have i2 : (k : Int) < (n : Int) := by omega
      clear hf hS2 hx hrw
      go_wp2_with (go_at_call 86; refine hD.out.mono ?_; rintro e w1 ⟨A1, n1, c1, rs, rfl, h3, h4, h5, h5b, h6⟩; have hn1 := h5.len; rw [hdsh.out] at hn1; have hn1' : m = n1 := hm.symm.trans hn1; subst hn1'; obtain ⟨k0, k1, k2⟩ := hW1.out w1 h6; obtain ⟨e0, e1, e2, e3, z0, z1, z2, z3⟩ := piece_at k1; have x0 : w1.cell? ⟨w.heap.size, 0, none⟩ = some (.int .i64 ((k : Int) + 1)) := (by rw [cells_of k0]; rfl); have x1 : w1.cell? ⟨w.heap.size, 1, none⟩ = some (.bool un) := (by rw [cells_of k0]; rfl); have k2h := Lib.hid k2; have k1h := Lib.hid k1; have y0 : w1.cell? ⟨b2, o2 + k, none⟩ = some (.slice A2 n2 c2) := ((k2.cell (p := ⟨b2, o2 + k, none⟩) hb2).trans hc2); clear k0 k1 k2 h6 h5 h5b hn1)
      refine bodyPost_ret (v := .agg #[.bool false, .slice A2 n2 c2, .slice none 0 0, .slice none 0 0]) (by simp [results, Tryz.results48, go_sem, World.cell?_setCell_same', e0, e1, e2, e3]) rfl ?_
      rw [hpe2.out]
      exact piece_doneF (v := ((A2, n2, c2), (none, 0, 0), (none, 0, 0))) (by omega) k2h.out (fun w' hb' => PcR.text (hOld.out _ _ _ _ hTx.out k2h.out hb')) _ _ _ _
    · have hfh := Lib.hid hf
      by_cases h0 : 0 < fav
      · have h1 : ¬ fav ≤ (n : Int) := by omega
        have f1 : decide ((0 : Int) < fav) = true := by simpa using h0
        have f2 : decide (fav ≤ (n : Int)) = false := by simpa using h1
        clear hf
        cases un
        · have hpe2 : Hid (p = cPc base ps) := Lib.hid (by rw [hpeh.out, if_neg hfh.out, if_neg (by simp)])
          go_wp2_with (go_at_call 86; refine hD.out.mono ?_; rintro e w1 ⟨A1, n1, c1, rs, rfl, h3, h4, h5, h5b, h6⟩; have hn1 := h5.len; rw [hdsh.out] at hn1; have hn1' : m = n1 := hm.symm.trans hn1; subst hn1'; obtain ⟨k0, k1, k2⟩ := hW1.out w1 h6; obtain ⟨e0, e1, e2, e3, z0, z1, z2, z3⟩ := piece_at k1; have x0 : w1.cell? ⟨w.heap.size, 0, none⟩ = some (.int .i64 fav) := (by rw [cells_of k0]; rfl); have x1 : w1.cell? ⟨w.heap.size, 1, none⟩ = some (.bool false) := (by rw [cells_of k0]; rfl); have k2h := Lib.hid k2; have k1h := Lib.hid k1; clear k0 k1 k2 h6 h5 h5b hn1)
          refine bodyPost_ret (v := .agg #[.bool true, .slice none 0 0, .slice A0 n0 c0, .slice A n c]) (by simp [results, Tryz.results48, go_sem, World.cell?_setCell_same', e0, e1, e2, e3]) rfl ?_
          rw [hpe2.out]
          exact piece_doneF (v := ((none, 0, 0), (A0, n0, c0), (A, n, c))) (by omega) k2h.out (fun w' hb' => PcR.conf (hOld.out _ _ _ _ hA0h.out k2h.out hb') ⟨hnc, hcm, rows, hAsh.out w' ((But.of_below (F := F) k2h.out fun k hk _ => hk).trans hb' (by rintro k (rfl | h); exact .inr (by omega); exact .inl h))⟩) _ _ _ _
        · have hpe2 : Hid (p = tPc (unionT (d :: d2 :: ds))) := Lib.hid (by rw [hpeh.out, if_neg hfh.out, if_pos rfl])
          go_wp2_with (first | (go_at_call 86; refine hD.out.mono ?_; rintro e w1 ⟨A1, n1, c1, rs, rfl, h3, h4, h5, h5b, h6⟩; have hn1 := h5.len; rw [hdsh.out] at hn1; have hn1' : m = n1 := hm.symm.trans hn1; subst hn1'; obtain ⟨k0, k1, k2⟩ := hW1.out w1 h6; obtain ⟨e0, e1, e2, e3, z0, z1, z2, z3⟩ := piece_at k1; have x0 : w1.cell? ⟨w.heap.size, 0, none⟩ = some (.int .i64 fav) := (by rw [cells_of k0]; rfl); have x1 : w1.cell? ⟨w.heap.size, 1, none⟩ = some (.bool true) := (by rw [cells_of k0]; rfl); have k2h := Lib.hid k2; have k1h := Lib.hid k1; have hU := Lib.hid (rUnionO_any A1 m c1 rs (d :: d2 :: ds) w1 (Nat.le_trans hml.out (by decide)) hu1.out hu2.out hu3.out (by rw [← hdsh.out]; exact h5)); clear k0 k1 k2 h6 h5 h5b hn1) | (go_at_call 87; refine hU.out.mono ?_; rintro e w2 ⟨v3, rfl, hT3⟩; obtain ⟨A3, c3, rfl, -, -, -⟩ := own_slice hT3.own; have hb3 := hT3.below; have k3 := Lib.hid ((hb3.block _ (Array.getElem?_eq_some_iff.1 k1h.out).1).trans k1h.out); obtain ⟨e0, e1, e2, e3, z0, z1, z2, z3⟩ := piece_at k3.out; have hT3h := Lib.hid hT3; have hb4 := Lib.hid (k2h.out.trans (hb3.mono k2h.out.size)); clear hT3 hb3))
          refine bodyPost_ret (v := .agg #[.bool false, .slice A3 (unionT (d :: d2 :: ds)).length c3, .slice none 0 0, .slice none 0 0]) (by simp [results, Tryz.results48, go_sem, World.cell?_setCell_same', e0, e1, e2, e3]) rfl ?_
          rw [hpe2.out]
          exact piece_doneF (v := ((A3, (unionT (d :: d2 :: ds)).length, c3), (none, 0, 0), (none, 0, 0))) (by omega) hb4.out (fun w' hb' => PcR.text (hT3h.out.stayF hb' (by have h9 := (Array.getElem?_eq_some_iff.1 k1h.out).1; have h8 := k2h.out.size; rintro k (rfl | h); exact h9; have := (hFh.out k h).2; omega))) _ _ _ _
      · have f1 : decide ((0 : Int) < fav) = false := by simpa using h0
        clear hf
        cases un
        · have hpe2 : Hid (p = cPc base ps) := Lib.hid (by rw [hpeh.out, if_neg hfh.out, if_neg (by simp)])
          go_wp2_with (go_at_call 86; refine hD.out.mono ?_; rintro e w1 ⟨A1, n1, c1, rs, rfl, h3, h4, h5, h5b, h6⟩; have hn1 := h5.len; rw [hdsh.out] at hn1; have hn1' : m = n1 := hm.symm.trans hn1; subst hn1'; obtain ⟨k0, k1, k2⟩ := hW1.out w1 h6; obtain ⟨e0, e1, e2, e3, z0, z1, z2, z3⟩ := piece_at k1; have x0 : w1.cell? ⟨w.heap.size, 0, none⟩ = some (.int .i64 fav) := (by rw [cells_of k0]; rfl); have x1 : w1.cell? ⟨w.heap.size, 1, none⟩ = some (.bool false) := (by rw [cells_of k0]; rfl); have k2h := Lib.hid k2; have k1h := Lib.hid k1; clear k0 k1 k2 h6 h5 h5b hn1)
          refine bodyPost_ret (v := .agg #[.bool true, .slice none 0 0, .slice A0 n0 c0, .slice A n c]) (by simp [results, Tryz.results48, go_sem, World.cell?_setCell_same', e0, e1, e2, e3]) rfl ?_
          rw [hpe2.out]
          exact piece_doneF (v := ((none, 0, 0), (A0, n0, c0), (A, n, c))) (by omega) k2h.out (fun w' hb' => PcR.conf (hOld.out _ _ _ _ hA0h.out k2h.out hb') ⟨hnc, hcm, rows, hAsh.out w' ((But.of_below (F := F) k2h.out fun k hk _ => hk).trans hb' (by rintro k (rfl | h); exact .inr (by omega); exact .inl h))⟩) _ _ _ _
        · have hpe2 : Hid (p = tPc (unionT (d :: d2 :: ds))) := Lib.hid (by rw [hpeh.out, if_neg hfh.out, if_pos rfl])
          go_wp2_with (first | (go_at_call 86; refine hD.out.mono ?_; rintro e w1 ⟨A1, n1, c1, rs, rfl, h3, h4, h5, h5b, h6⟩; have hn1 := h5.len; rw [hdsh.out] at hn1; have hn1' : m = n1 := hm.symm.trans hn1; subst hn1'; obtain ⟨k0, k1, k2⟩ := hW1.out w1 h6; obtain ⟨e0, e1, e2, e3, z0, z1, z2, z3⟩ := piece_at k1; have x0 : w1.cell? ⟨w.heap.size, 0, none⟩ = some (.int .i64 fav) := (by rw [cells_of k0]; rfl); have x1 : w1.cell? ⟨w.heap.size, 1, none⟩ = some (.bool true) := (by rw [cells_of k0]; rfl); have k2h := Lib.hid k2; have k1h := Lib.hid k1; have hU := Lib.hid (rUnionO_any A1 m c1 rs (d :: d2 :: ds) w1 (Nat.le_trans hml.out (by decide)) hu1.out hu2.out hu3.out (by rw [← hdsh.out]; exact h5)); clear k0 k1 k2 h6 h5 h5b hn1) | (go_at_call 87; refine hU.out.mono ?_; rintro e w2 ⟨v3, rfl, hT3⟩; obtain ⟨A3, c3, rfl, -, -, -⟩ := own_slice hT3.own; have hb3 := hT3.below; have k3 := Lib.hid ((hb3.block _ (Array.getElem?_eq_some_iff.1 k1h.out).1).trans k1h.out); obtain ⟨e0, e1, e2, e3, z0, z1, z2, z3⟩ := piece_at k3.out; have hT3h := Lib.hid hT3; have hb4 := Lib.hid (k2h.out.trans (hb3.mono k2h.out.size)); clear hT3 hb3))
          refine bodyPost_ret (v := .agg #[.bool false, .slice A3 (unionT (d :: d2 :: ds)).length c3, .slice none 0 0, .slice none 0 0]) (by simp [results, Tryz.results48, go_sem, World.cell?_setCell_same', e0, e1, e2, e3]) rfl ?_
          rw [hpe2.out]
          exact piece_doneF (v := ((A3, (unionT (d :: d2 :: ds)).length, c3), (none, 0, 0), (none, 0, 0))) (by omega) hb4.out (fun w' hb' => PcR.text (hT3h.out.stayF hb' (by have h9 := (Array.getElem?_eq_some_iff.1 k1h.out).1; have h8 := k2h.out.size; rintro k (rfl | h); exact h9; have := (hFh.out k h).2; omega))) _ _ _ _

theorem rPiece_any (A0 : Option Addr) (n0 c0 : Nat) (base : Txs) (A : Option Addr) (n c : Nat) (rows : List Slc) (ps : List Txs) (fav : Int) (un : Bool) (w : World) (hnc : n ≤ c) (hcm : c ≤ maxLen) (hn : n ≤ 1000) (hfav : inR64 fav) (hsm : smallT base ps) (hA0 : TxR w w.heap.size (A0, n0, c0) base) (hA : RowsT w w.heap.size A n rows ps) :
    Calls Tryz.prog 48 #[.slice A0 n0 c0, .slice A n c, .agg #[.int .i64 fav, .bool un]] w fun e w' => PieceOut w w' e (pieceD base ps fav un) :=
  (rPieceF_any (fun _ => False) w.heap.size A0 n0 c0 base A n c rows ps fav un w hnc hcm hn hfav hsm (Nat.le_refl _) (fun k h => h.elim) hA0 hA hA.2.2 (fun w2 h => hA.up (h.below (Nat.le_refl _) fun k h => h.elim))).mono fun e w' h => h.out
end Go.Proofs.YtoephlkfejcadaaGreat
