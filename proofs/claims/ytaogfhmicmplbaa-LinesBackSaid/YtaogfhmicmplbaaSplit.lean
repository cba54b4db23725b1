/- Proved here: lines.cut's function value hands on the lines of a string, one by one; lines.Split makes of bytes (at most 2^40) the slice of their lines, in new memory. -/
import Derived.RangeFuncNested
import Derived.RangeFuncBound
import Derived.RangeFuncCalls
import Derived.RangeFuncLeaves
import Derived.RangeFuncBox
import Derived.Shelf.Abstract
import Derived.Shelf.RegionOpen
import Derived.WalkKit
import Derived.OwnWalkIn
import Derived.TacticsInMore
import Derived.LoopNIn
import Derived.LoopIn
import Derived.Maps.AppendAt
import Derived.Test.YtaogfhmicmplbaaLines
namespace Go.Proofs.Ytaogfhmicmplbaa
open Go.RowKit Go.Shelf
set_option linter.unusedVariables false
attribute [local go_sem] Oper.semAt_some

/-- The lines of a string, as strings. -/
def splitB (s : ByteArray) : List ByteArray := (splitL s.data.toList).map str

theorem str_eq {s : ByteArray} {l : List UInt8} (h : s.data.toList = l) : s = str l := by
  cases s with
  | mk d => simp only [str] at h ⊢; congr; rw [← h]

theorem splitB_step {r : ByteArray} (h : ¬ r.toList = []) : splitB r = r.extract 0 (fe r.data.toList) :: splitB (r.extract (fe r.data.toList) r.size) := by
  rw [ByteArray.toList_eq] at h
  unfold splitB
  rw [splitL_step h, List.map_cons, Lib.extract_data, ← str_eq (s := r.extract 0 (fe r.data.toList)) (l := r.data.toList.take (fe r.data.toList)) (by rw [Lib.extract_data]; simp)]
  congr 3
  have := fe_le r.data.toList
  rw [List.take_of_length_le]
  rw [List.length_drop, Lib.size_eq]
  omega
theorem splitB_nil {r : ByteArray} (h : r.toList = []) : splitB r = [] := by unfold splitB; rw [data_nil h]; rfl

set_option maxRecDepth 100000 in
set_option maxHeartbeats 1000000 in
theorem cut1_in (n : Nat) (hn : 1 ≤ n) (l Bn n₀ : Nat) (s : ByteArray) (hs : s.size ≤ maxLen) (J Jx : List ByteArray → World → Prop)
    (hY : ∀ pre x W, J pre W → pre.length < (splitB s).length → YieldAt Fence.wide (n - 1) Try.prog l #[.string x] W fun e W' =>
      (e = .returned (.bool true) ∧ J (pre ++ [x]) W' ∧ Below n₀ W W') ∨ (e = .returned (.bool false) ∧ Jx (pre ++ [x]) W'))
    (W : World) (hBn : W.cell? ⟨Bn, 0, none⟩ = some (.string s)) (h0 : J [] W) :
    CallsIn Fence.wide n Try.prog 24 #[.func (.yield l) #[] #[], .pointer (some ⟨Bn, 0, none⟩)] W fun e W' => (∃ v, e = .returned v) ∧
      ((∃ ys, ys = splitB s ∧ J ys W') ∨ (∃ pre, pre <+: splitB s ∧ Jx pre W')) := by
  unfold maxLen at hs
  refine callsIn_of_wp Try.func24 rfl trivial ?_ rfl
  simp only [Try.ntmps24, List.size_toArray, List.length_cons, List.length_nil, Nat.reduceAdd, Nat.reduceSub, Array.replicate_succ, Array.replicate_zero, List.push_toArray, List.append_toArray, List.nil_append, List.cons_append]
  gi_wp2
  gi_loopw [3] (fun v wr => ∃ (pre : List ByteArray) (r : ByteArray), v = .string r ∧ r.size ≤ s.size ∧ Hid (splitB s = pre ++ splitB r) ∧ J pre wr)
    (fun v wr => match v with | .string r => r.size | _ => 0)
  case atStart =>
    exact ⟨[], s, rfl, Nat.le_refl _, Lib.hid rfl, h0⟩
  case round =>
    obtain ⟨pre, r, rfl, hr, hx, hJs⟩ := hrel
    by_cases he : r.toList = []
    · gi_wp2
      go_end0
      exact ⟨⟨_, rfl⟩, .inl ⟨pre, by rw [hx.out, splitB_nil he, List.append_nil], hJs⟩⟩
    · have h1 := size_pos he
      have hf := fe_le r.data.toList
      rw [← Lib.size_eq] at hf
      have hp := fe_pos (l := r.data.toList) (by rw [← ByteArray.toList_eq]; exact he)
      have hst := Lib.hid (splitB_step he)
      obtain ⟨f, hf'⟩ : ∃ f, f = fe r.data.toList := ⟨_, rfl⟩
      have hfe := Lib.hid hf'
      rw [← hf'] at hf hp
      clear hf'
      obtain ⟨fn, tmps, assign, body, hy, hR⟩ := hY pre (r.extract 0 f) wr hJs (by rw [hx.out, hst.out]; simp)
      gi_wp2_with (refine ⟨trivial, ?_⟩; gi_at_call 20; refine (callsIn_wide.2 (firstEnd_any r _ (by unfold maxLen; omega))).mono ?_; rintro e w' ⟨rfl, rfl⟩; rw [show fe r.data.toList = f from hfe.out.symm])
      · refine hR.mono ?_
        rintro e W3 (⟨rfl, hJ3, hk3⟩ | ⟨rfl, hJx3⟩)
        · gi_wp2
          go_roundw
          case rel => exact ⟨pre ++ [r.extract 0 f], r.extract f r.size, rfl, by simp; omega, Lib.hid (by rw [hx.out, hst.out, ← hfe.out]; simp), hJ3⟩
          case measure => simp; omega
        · gi_wp2
          refine bodyPost_ret (results_none rfl _ _ _) rfl ?_
          exact ⟨⟨_, rfl⟩, .inr ⟨pre ++ [r.extract 0 f], ⟨splitB (r.extract f r.size), by rw [hx.out, hst.out, ← hfe.out]; simp⟩, hJx3⟩⟩
      · exfalso
        have h : (!r.toList.isEmpty) = false := by assumption
        exact he (by simpa using h)

theorem cut_in (n : Nat) (s : ByteArray) (w : World) :
    CallsIn Fence.wide n Try.prog 19 #[.string s] w fun e w' => e = .returned (.func (.func 24) #[] #[.pointer (some ⟨w.heap.size, 0, none⟩)]) ∧ w' = w.alloc (.cells #[.string s] 9) := by
  refine callsIn_of_wp Try.func19 rfl trivial ?_ rfl
  simp only [Try.ntmps19, List.size_toArray, List.length_cons, List.length_nil, Nat.reduceAdd, Nat.reduceSub, Array.replicate_succ, Array.replicate_zero, List.push_toArray, List.append_toArray, List.nil_append, List.cons_append]
  gi_wp2
  go_ret
  exact ⟨rfl, rfl⟩

theorem cut_stops (n : Nat) (hn : 1 ≤ n) (Bn n₀ : Nat) (s : ByteArray) (hs : s.size ≤ maxLen) (w : World) (hBn : Bn < w.heap.size) (hn₀ : n₀ ≤ w.heap.size) (hc : w.cell? ⟨Bn, 0, none⟩ = some (.string s)) :
    SeqStopsK Fence.wide n Try.prog 24 #[.pointer (some ⟨Bn, 0, none⟩)] (fun x : ByteArray => #[Value.string x]) (Below n₀) (fun ys => ys = splitB s) (fun pre => pre <+: splitB s) (splitB s).length w := fun l J Jx W hW _ _ hY h0 =>
  cut1_in n hn l Bn n₀ s hs J Jx hY W ((hW.cell (p := ⟨Bn, 0, none⟩) hBn).trans hc) h0

theorem infoStr : (Try.prog.info? 9).map (fun i => (i.zero, i.size, i.bytes)) = some (some (.string ByteArray.empty), 1, 16) := by kernel_rfl

theorem splitL_len (l : List UInt8) : (splitL l).length ≤ l.length := by
  induction l with
  | nil => simp [splitL]
  | cons c r ih =>
    unfold splitL
    split
    · simp; omega
    · split
      · simp
      · next h => rw [h] at ih; simp at ih ⊢; omega
theorem splitB_len (s : ByteArray) : (splitB s).length ≤ s.size := by
  unfold splitB; rw [List.length_map, Lib.size_eq]; exact splitL_len _

set_option maxRecDepth 100000 in
set_option maxHeartbeats 2000000 in
theorem Split_in (n : Nat) (hn : 3 ≤ n) (A : Option Addr) (len c : Nat) (bs : List UInt8) (w : World) (hlen : bs.length ≤ 1000000000000) (hA : Byts w w.heap.size A len bs) :
    CallsIn Fence.wide n Try.prog 9 #[.slice A len c] w fun e W' => ∃ v, e = .returned v ∧ W'.ownsRow w.heap.size 9 1 v (splitL bs).length ((splitL bs).map fun s => Value.string (str s)) ∧ Below w.heap.size w W' := by
  have h1 : 1 ≤ n := by omega
  obtain ⟨i0, hi, hz0, hz1, hz2⟩ := info_parts infoStr
  refine callsIn_of_wp_marks Try.func9 rfl trivial ?_ rfl
  simp only [Try.ntmps9, List.size_toArray, List.length_cons, List.length_nil, Nat.reduceAdd, Nat.reduceSub, Array.replicate_succ, Array.replicate_zero, List.push_toArray, List.append_toArray, List.nil_append, List.cons_append]
  have hB1 : Below w.heap.size w (w.alloc (.cells #[.slice none 0 0] 24)) := (Below.refl _ w).alloc (Nat.le_refl _) _
  have hcv := conv_bytes (P := Try.prog) (hA.below hB1) c Try.underlying22 Try.underlying5 Try.underlying9
  gi_wp2_with (refine ⟨trivial, ?_⟩; gi_at_call 19; refine (cut_in (n - 1) _ _).mono ?_; rintro e w' ⟨rfl, rfl⟩)
  have bO := Boxed.new w 24 (.slice none 0 0)
  have bN := Boxed.new (w.alloc (.cells #[.slice none 0 0] 24)) 9 (.string (str bs))
  rw [World.size_alloc] at bN
  have hB0 : Below w.heap.size w ((w.alloc (.cells #[.slice none 0 0] 24)).alloc (.cells #[.string (str bs)] 9)) := ((Below.refl _ w).alloc (Nat.le_refl _) _).alloc (by simp) _
  refine wpIn_rangeFunc_ownG rfl h1 (gf := 24) (lb := #[.pointer (some ⟨w.heap.size + 1, 0, none⟩)]) rfl trivial (enters_of Try.func24 (by kernel_rfl) rfl)
    (cut_stops (n - 1) (by omega) (w.heap.size + 1) w.heap.size (str bs) (by rw [str_size]; unfold maxLen; omega) _ (by simp) (by simp; omega) bN.cell) belowK_t (belowK_b (by simp; omega)) (Below.refl _ _) (fun _ => rfl)
    (fun pre W => (∃ v, Boxed W w.heap.size 24 v ∧ W.ownsRow w.heap.size 9 1 v pre.length (pre.map Value.string) ∧ (v = .slice none 0 0 ↔ pre = [])) ∧ Below w.heap.size w W)
    (fun _ _ _ => False)
    (OwnFrom.and (Own.from (holdsRow_own w.heap.size w.heap.size 24 9 1 (fun pre => pre.length) (fun pre => pre.map Value.string) (fun pre v => v = .slice none 0 0 ↔ pre = [])) _) (ownFrom_below (Nat.le_refl _) (by simp; omega)))
    (fun _ _ _ _ _ hs _ _ => hs)
    ⟨⟨_, bO.alloc _, World.ownsRow_nil _ _ _ _, by simp⟩, hB0⟩
    (fun x => { tmps := #[.slice A len c, undef, .slice none 0 0, .pointer (some ⟨w.heap.size, 0, none⟩), .string x, .slice A len c, .string (str bs), .func (.func 24) #[] #[.pointer (some ⟨w.heap.size + 1, 0, none⟩)], .string x, undef, undef, undef, undef, undef], defers := [] }) ?assign ?body ?done ?stop
  case assign =>
    intro l x W K hK
    gi_wp2
    exact hK
  case body =>
    rintro l pre x W ⟨⟨v, hv, hrow, hnil⟩, hB⟩ hlt
    have hc := hv.cell
    have hpl := splitB_len (str bs)
    rw [str_size] at hpl
    have hpl2 : pre.length < 1000000000000 := by omega
    clear hpl
    have hmax : pre.length + 1 ≤ maxLen := by unfold maxLen; omega
    gi_wp2_with (gi_at_builtin; refine wpListIn_append_own _ rfl _ _ 24 rfl w.heap.size 9 i0 (.string ByteArray.empty) 1 16 Try.underlying24 hi hz0 hz1 hz2 rfl (by decide) _ _ _ rfl (hrow.alloc _) ⟨W.heap.size, 0, none⟩ 1 1 [.string x] rfl rfl (cell_one_new _ _ _) (by simp [Value.oneCell']) hmax (by omega) (by have := hB.size; simp; omega) ?_; intro v' w1 hown' hgrow _; obtain ⟨g', cap', rfl⟩ := ownsRow_succ hown'; obtain ⟨hv1, hv2, hr2, hk2, hb2⟩ := hv.appended (by decide) hrow hB.size (Nat.le_refl _) hown' hgrow; have hc1 := hv1.cell; have hf1 := hv1.frozen)
    exact ⟨hk2.from _, hb2, ⟨_, hv2, by simpa using hr2, by simp⟩, hB.trans hb2⟩
  case done =>
    rintro D ys W hD rfl ⟨⟨v, hv, hrow, hnil⟩, hB⟩ hK
    have hc := hv.cell
    gi_wp2
    refine ⟨by simp, .inl ⟨_, _, rfl, run_takeDeferred hK, ?_⟩⟩
    have hsb : splitB (str bs) = (splitL bs).map str := by unfold splitB; rw [str_data]
    rw [hsb] at hrow
    refine ⟨_, results_tmp rfl _ _ _, v, rfl, ?_, hB.trans (belowK_b (w := w) (Nat.le_refl _) W D _ _ (by simp at hD; omega) hK rfl rfl)⟩
    have := ownsRow_putObj hrow (.deferred none) hK rfl
    simpa [Function.comp_def] using this
  case stop =>
    rintro D c pre W _ _ h _
    exact h.elim

end Go.Proofs.Ytaogfhmicmplbaa
