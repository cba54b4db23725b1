/- Proved here: texts joined: Ids, RowsIn, Chs, Cks, CkInfo. -/
import Derived.Test.YtoopdgohdeddoaaGreatDoorBs01
import Derived.Test.YtoopdgohdeddoaaGreatDoorBs02
import Derived.Test.YtoopdgohdeddoaaGreatDoorBs10
import Derived.Test.YtoopdgohdeddoaaGreatDoorBs16
import Derived.Test.YtoopdgohdeddoaaGreatDoorBs19
import Derived.Test.YtoopdgohdeddoaaGreatDoorChecked
import Derived.Deep.QuietTactic
import Derived.BigQuiet
import Derived.Deep.OwnRows
import Derived.WalkLawsBesides
import Derived.BigFrame
import Derived.Outline
/- Proved here: the document's own numbers of texts (layer 2): All. For stages behind the second: NOT beside stage 2's own texts, which have the same names. -/
namespace Go.Proofs.YtoopdgohdeddoaaGreatDoor
open Go.RowKit
set_option linter.unusedVariables false

/-- A table of the document's own, behind s was asked. -/
def IdOut (w w' : World) (e : Ending) (A0 : Option Addr) (ts : List (List UInt8)) (s : List UInt8) : Prop :=
  ∃ A n c, (∀ b o, A = some ⟨b, o, none⟩ → A = A0 ∨ w.heap.size ≤ b) ∧ e = .returned (.tuple #[.slice A n c, .int .i64 (numOf ts s)]) ∧ n = (withText ts s).length ∧ Strs w' w'.heap.size A n (withText ts s) ∧ Below w.heap.size w w'

theorem notin_step {ts : List (List UInt8)} {s t : List UInt8} {k : Nat} (hq : s ∉ ts.take k) (ht : ts[k]? = some t) (h : ((str t).toList == (str s).toList) = false) : s ∉ ts.take (k + 1) := by
  rw [ByteArray.toList_eq, ByteArray.toList_eq, str_data, str_data] at h
  rw [take_at ht]
  intro hm
  rcases List.mem_append.1 hm with hm | hm
  · exact hq hm
  · have : s = t := by simpa using hm
    subst this
    simp at h
theorem found {ts : List (List UInt8)} {s t : List UInt8} {k : Nat} (hq : s ∉ ts.take k) (ht : ts[k]? = some t) (h : ((str t).toList == (str s).toList) = true) : numOf ts s = k ∧ withText ts s = ts := by
  rw [ByteArray.toList_eq, ByteArray.toList_eq, str_data, str_data] at h
  have e : t = s := by simpa using h
  subst e
  have hk := (List.getElem?_eq_some_iff.1 ht).1
  have hm : t ∈ ts := List.mem_of_getElem? ht
  refine ⟨?_, by unfold withText; rw [if_pos hm]⟩
  unfold numOf
  conv => lhs; rw [← List.take_append_drop k ts, drop_at ht]
  rw [List.idxOf_append, if_neg hq, List.length_take]
  simp
  omega

theorem id_same {w : World} {A : Option Addr} {n k : Nat} (c : Nat) {ts : List (List UInt8)} {s : List UInt8} (hl : ts.length = n) (hA : Strs w w.heap.size A n ts) (h : numOf ts s = k ∧ withText ts s = ts) :
    IdOut w w (.returned (.tuple #[.slice A n c, .int .i64 k])) A ts s := by
  refine ⟨A, n, c, fun _ _ _ => .inl rfl, by rw [h.1], by rw [h.2, hl], by rw [h.2]; exact hA, Below.refl _ _⟩
theorem id_new {w w2 : World} {v : Value} {n : Nat} (A0 : Option Addr) {ts : List (List UInt8)} {s : List UInt8} (hl : ts.length = n) (hs : s ∉ ts) (hown : w2.ownsRow w.heap.size 9 1 v (n + 1) ((ts.map fun s => .string (str s)) ++ [.string (str s)])) (hB : Below w.heap.size w w2) :
    IdOut w w2 (.returned (.tuple #[v, .int .i64 n])) A0 ts s := by
  obtain ⟨A', c', rfl, _, _, hr⟩ := own_slice hown
  have e1 : numOf ts s = n := by rw [← hl]; exact List.idxOf_eq_length hs
  have e2 : withText ts s = ts ++ [s] := by unfold withText; rw [if_neg hs]
  refine ⟨A', n + 1, c', fun b o e => .inr (hown.lt b (by rw [e]; rfl)).1, by rw [e1], by rw [e2]; simp [hl], ?_, hB⟩
  rw [e2]
  unfold Strs
  simpa using hr

set_option maxRecDepth 100000 in
set_option maxHeartbeats 400000 in
theorem rId_any (A : Option Addr) (n c : Nat) (ts : List (List UInt8)) (s : List UInt8) (w : World) (hn : n ≤ 100000) (hA : Strs w w.heap.size A n ts) :
    Calls Tryz.prog 83 #[.slice A n c, .string (str s)] w fun e w' => IdOut w w' e A ts s := by
  have hl := hA.len
  obtain ⟨i0, hi, hz0, hz1, hz2⟩ := info_parts info9
  go_enter Tryz.func83, Tryz.ntmps83
  go_wp2
  go_loop [6] (fun i => ∃ k : Nat, k ≤ n ∧ i = .int .i64 k ∧ Hid (s ∉ ts.take k)) (fun i => n - (intOf i).toNat)
  case atStart => exact ⟨0, Nat.zero_le _, rfl, Lib.hid (by simp)⟩
  case round =>
    obtain ⟨k, hk, rfl, hq⟩ := hrel
    by_cases hlt : k < n
    · obtain ⟨b, o, t, rfl, hb, ht, hc⟩ := hA.at_ (k := k) hlt
      go_wp2
      · have h : ((str t).toList == (str s).toList) = true := by assumption
        have hf := Lib.hid (found hq.out ht h)
        go_ret2
        exact id_same c hl hA hf.out
      · have h : ((str t).toList == (str s).toList) = false := by assumption
        go_round
        case rel => exact ⟨k + 1, by omega, by go_num, Lib.hid (notin_step hq.out ht h)⟩
        case measure => simp [intOf]; omega
    · obtain rfl : k = n := by omega
      have hns : Hid (s ∉ ts) := Lib.hid (by have := hq.out; rwa [List.take_of_length_le (by omega)] at this)
      have hw0 : (w.alloc (.cells #[] 9)).ownsRow w.heap.size 9 1 (.slice (some ⟨w.heap.size, 0, none⟩) 0 0) 0 [] := own_empty w w.heap.size _ (Nat.le_refl _)
      have hB0 : Below w.heap.size w (w.alloc (.cells #[] 9)) := (Below.refl _ _).alloc (Nat.le_refl _) _
      have tok1 := trivial
      go_wp2_with (first
        | (at_builtin; have _t := tok1; refine wpList_append_reads _ rfl _ _ 22 rfl w.heap.size 9 i0 (.string ⟨#[]⟩) 16 Tryz.underlying22 hi hz0 hz1 hz2 rfl _ 0 [] rfl hw0 w.heap.size A k c _ rfl (hA.below hB0) (strs_one _) (by unfold maxLen; omega) (by omega) hB0.size ?_; intro v1 w1 hown1 hg1; clear tok1; have hB1 : Below w.heap.size w w1 := hB0.grown hg1 hB0.size (fun j e => (hw0.lt j e).1))
        | (at_builtin; refine wpList_append_own _ rfl _ _ 22 rfl w.heap.size 9 i0 (.string ⟨#[]⟩) 1 16 Tryz.underlying22 hi hz0 hz1 hz2 rfl (by decide) _ _ _ rfl (hown1.alloc _) ⟨w1.heap.size, 0, none⟩ 1 1 [.string (str s)] rfl rfl (cell_one_new _ _ _) (by simp [Value.oneCell']) (by unfold maxLen; omega) (by omega) (by have := hB1.size; simp; omega) ?_; intro v2 w2 hown2 hg2 _))
      have hB2 : Below w.heap.size w w2 := (hB1.alloc hB1.size _).grown hg2 (by have := hB1.size; simp; omega) (fun j e => (hown1.lt j e).1)
      go_ret2
      exact id_new A hl hns.out (by simpa using hown2) hB2
/-- The document's table, in the slice at X, and the numbers of j texts of f, in the slice value l. -/
def InIn (wi wr : World) (v : Value) (X : Option Addr) (nx : Nat) (l : Value) (ts f fin : List (List UInt8)) (j : Nat) : Prop :=
  nx = (withAll ts (f.take j)).length ∧ Strs wr wr.heap.size X nx (withAll ts (f.take j)) ∧ (∀ b o, X = some ⟨b, o, none⟩ → b < wr.heap.size ∧ v.ownBlock ≠ some b ∧ l.ownBlock ≠ some b) ∧
    wr.ownsRow wi.heap.size 3 1 l j ((f.take j).map fun s => .int .i64 (numOf fin s)) ∧ Below wi.heap.size wi wr

/-- .. and the rows of k files, in the slice value v. -/
def OutIn (w wr : World) (v : Value) (X : Option Addr) (nx : Nat) (rs : List (Option Addr × Nat × Nat)) (files : List (List (List UInt8))) (fin : List (List UInt8)) (k : Nat) : Prop :=
  nx = (withAll [] (files.take k).flatten).length ∧ Strs wr wr.heap.size X nx (withAll [] (files.take k).flatten) ∧ (∀ b o, X = some ⟨b, o, none⟩ → b < wr.heap.size ∧ v.ownBlock ≠ some b) ∧
    rs.length = k ∧ wr.ownsRow w.heap.size 75 1 v k (rs.map fun r => .slice r.1 r.2.1 r.2.2) ∧
    (∀ (i : Nat) (r : Option Addr × Nat × Nat) (f : List (List UInt8)), rs[i]? = some r → files[i]? = some f → wr.ownsRow w.heap.size 3 1 (.slice r.1 r.2.1 r.2.2) f.length (f.map fun s => .int .i64 (numOf fin s))) ∧ Below w.heap.size w wr

section
variable {w wi wr w1 w2 : World} {v l l' : Value} {X X' : Option Addr} {nx n' j k : Nat} {ts f fin : List (List UInt8)} {t : List UInt8} {files : List (List (List UInt8))} {rs : List (Option Addr × Nat × Nat)}
theorem in_start (h : nx = ts.length) (hS : Strs wi wi.heap.size X nx ts) (hX : ∀ b o, X = some ⟨b, o, none⟩ → b < wi.heap.size ∧ v.ownBlock ≠ some b) : InIn wi wi v X nx (.slice none 0 0) ts f fin 0 :=
  ⟨h, hS, fun b o e => ⟨(hX b o e).1, (hX b o e).2, by simp [Value.ownBlock]⟩, World.ownsRow_nil _ _ _ _, .refl _ _⟩
theorem in_step (hj : f[j]? = some t) (hfin : withAll ts f <+: fin) (hv : ∀ b, v.ownBlock = some b → b < wi.heap.size) (h : InIn wi wr v X nx l ts f fin j)
    (hX' : ∀ b o, X' = some ⟨b, o, none⟩ → X' = X ∨ wr.heap.size ≤ b) (hS' : Strs w1 w1.heap.size X' (withText (withAll ts (f.take j)) t).length (withText (withAll ts (f.take j)) t)) (hB1 : Below wr.heap.size wr w1)
    {o1 : Obj} (hown : w2.ownsRow wi.heap.size 3 1 l' (j + 1) (((f.take j).map fun s => .int .i64 (numOf fin s)) ++ [.int .i64 (numOf (withAll ts (f.take j)) t)])) (hg : (w1.alloc o1).grownBy w2 l.ownBlock)
    (hloc : l'.ownBlock = l.ownBlock ∨ l'.ownBlock = some (w1.alloc o1).heap.size) : InIn wi w2 v X' (withText (withAll ts (f.take j)) t).length l' ts f fin (j + 1) := by
  obtain ⟨_, hS, hX, hl, hB⟩ := h
  have hta : withAll ts (f.take (j + 1)) = withText (withAll ts (f.take j)) t := by rw [take_at hj, withAll_app]; rfl
  have hnum : numOf (withAll ts (f.take j)) t = numOf fin t := by
    refine numOf_pre (List.IsPrefix.trans ?_ hfin)
    rw [← hta]
    conv => rhs; rw [← List.take_append_drop (j + 1) f, withAll_app]
    exact withAll_pre _ _
  have hpos : 0 < (withText (withAll ts (f.take j)) t).length := List.length_pos_of_mem (withText_mem _ _)
  have hllt : ∀ b, l.ownBlock = some b → wi.heap.size ≤ b ∧ b < wr.heap.size := hl.lt
  have hX2 : ∀ b o, X' = some ⟨b, o, none⟩ → b < w1.heap.size ∧ v.ownBlock ≠ some b ∧ l.ownBlock ≠ some b := fun b o e => by
    obtain ⟨b', o', e', hlt, _⟩ := hS'.2 hpos
    rw [e] at e'
    injection e' with e'; injection e' with e1 _; subst e1
    refine ⟨hlt, ?_⟩
    rcases hX' b o e with h | h
    · exact (hX b o (h ▸ e)).2
    · exact ⟨fun e => by have := hv b e; have := hB.size; omega, fun e => by have := (hllt b e).2; omega⟩
  refine ⟨by rw [hta], ?_, fun b o e => ?_, ?_, ?_⟩
  · rw [hta]
    exact ((hS'.below ((Below.refl _ _).alloc (Nat.le_refl _) o1)).grown (by simp) hg (fun b o e => (hX2 b o e).2.2)).more (by have := hg.size; simp at this; omega)
  · obtain ⟨h1, h2, h3⟩ := hX2 b o e
    refine ⟨by have := hg.size; simp at this; omega, h2, ?_⟩
    rcases hloc with h | h
    · rw [h]; exact h3
    · rw [h]; simp; omega
  · rw [take_at hj, List.map_append]
    simpa [hnum] using hown
  · have h1 : wi.heap.size ≤ wr.heap.size := hB.size
    have h2 : wr.heap.size ≤ w1.heap.size := hB1.size
    exact ((hB.trans (hB1.mono h1)).alloc (by omega) o1).grown hg (by simp; omega) (fun b e => (hllt b e).1)
theorem out_step (hk : files[k]? = some f) (hfin : withAll [] files.flatten <+: fin) (h : OutIn w wi v X nx rs files fin k) {X2 : Option Addr} {n2 : Nat} {A : Option Addr} {nl c : Nat}
    (hi : InIn wi wr v X2 n2 (.slice A nl c) (withAll [] (files.take k).flatten) f fin f.length) {o1 : Obj} {v' : Value}
    (hown : w2.ownsRow w.heap.size 75 1 v' (k + 1) ((rs.map fun r => .slice r.1 r.2.1 r.2.2) ++ [.slice A nl c])) (hg : (wr.alloc o1).grownBy w2 v.ownBlock)
    (hloc : v'.ownBlock = v.ownBlock ∨ v'.ownBlock = some (wr.alloc o1).heap.size) : OutIn w w2 v' X2 n2 (rs ++ [(A, nl, c)]) files fin (k + 1) := by
  obtain ⟨_, hS, hX, hlen, hvo, hrows, hB⟩ := h
  obtain ⟨h1, hS2, hX2, hl, hBi⟩ := hi
  rw [List.take_length] at h1 hS2 hl
  have hta : withAll [] (files.take (k + 1)).flatten = withAll (withAll [] (files.take k).flatten) f := by
    rw [take_at hk, List.flatten_append, withAll_app]; simp
  have hvlt : ∀ b, v.ownBlock = some b → w.heap.size ≤ b ∧ b < wi.heap.size := hvo.lt
  have hwi : w.heap.size ≤ wi.heap.size := hB.size
  have hir : wi.heap.size ≤ wr.heap.size := hBi.size
  have keep : ∀ {u : Value} {m : Nat} {xs : List Value} {base : Nat}, wr.ownsRow base 3 1 u m xs → w2.ownsRow base 3 1 u m xs := fun {u m xs base} hu => by
    refine (hu.alloc o1).kept hg ?_
    rcases hu.2 with ⟨rfl, _⟩ | ⟨g, cap, cur, rfl, hbg, hgg, _⟩
    · exact .inl rfl
    · refine .inr fun e => ?_
      rcases hvo.2 with ⟨rfl, _⟩ | ⟨g', cap', cur', rfl, _, hgg', _⟩
      · simp [Value.ownBlock] at e
      · simp only [Value.ownBlock, Option.some.injEq] at e
        subst e
        have hlt := (hvlt _ rfl).2
        rw [← hBi.block _ hlt, hgg] at hgg'
        injection hgg' with hgg'
        simp at hgg'
  refine ⟨by rw [hta]; exact h1, ?_, fun b o e => ?_, by simp [hlen], by simpa using hown, fun i r g hr hg' => ?_, ?_⟩
  · rw [hta]
    exact ((hS2.below ((Below.refl _ _).alloc (Nat.le_refl _) o1)).grown (by simp) hg (fun b o e => (hX2 b o e).2.1)).more (by have := hg.size; simp at this; omega)
  · obtain ⟨h1, h2, _⟩ := hX2 b o e
    refine ⟨by have := hg.size; simp at this; omega, ?_⟩
    rcases hloc with h | h
    · rw [h]; exact h2
    · rw [h]; simp; omega
  · rcases Nat.lt_or_ge i k with hi | hi
    · rw [List.getElem?_append_left (by omega)] at hr
      have := hrows i r g hr hg'
      refine keep (ownsRow_kept this fun b e => hBi.block b (this.lt b e).2)
    · have hik : i = k := by
        have := (List.getElem?_eq_some_iff.1 hr).1
        simp at this; omega
      subst hik
      rw [List.getElem?_append_right (by omega), hlen, Nat.sub_self] at hr
      simp at hr
      subst hr
      rw [hk] at hg'
      injection hg' with hg'
      subst hg'
      have := keep hl
      refine ⟨this.1, ?_⟩
      rcases this.2 with h | ⟨g, cap, cur, e1, e2, r⟩
      · exact .inl h
      · exact .inr ⟨g, cap, cur, e1, by omega, r⟩
  · exact ((hB.trans (hBi.mono hwi)).alloc (by omega) o1).grown hg (by simp; omega) (fun b e => (hvlt b e).1)

theorem out_end {n : Nat} (hn : files.length = n) (h : OutIn w wr v X nx rs files fin n) : AllOut w wr (.returned v) (numsL fin files) := by
  obtain ⟨_, _, _, hlen, hvo, hrows, hB⟩ := h
  obtain ⟨A, c, rfl, hnc, hcm, hr⟩ := own_slice hvo
  refine ⟨A, n, c, rs, rfl, hnc, hcm, ⟨hr, by simp [numsL, hlen, hn], fun k r xs h1 h2 => ?_⟩, hB⟩
  unfold numsL at h2
  rw [List.getElem?_map] at h2
  cases hf : files[k]? with
  | none => rw [hf] at h2; cases h2
  | some f =>
    rw [hf] at h2
    simp only [Option.map_some, Option.some.injEq] at h2
    subst h2
    have := hrows k r f h1 hf
    obtain ⟨A', c', e, _, _, hr'⟩ := own_slice this
    injection e with e1 e2 e3
    subst e1
    unfold Nums
    have h3 : (f.map fun s => (numOf fin s : Int)).map (fun x => Value.int .i64 x) = f.map fun s => .int .i64 (numOf fin s) := by simp
    rw [h3]
    rw [e2]
    exact hr'
end

set_option maxRecDepth 100000 in
set_option maxHeartbeats 1000000 in
theorem rAllS_any (m : Nat) (A : Option Addr) (n c : Nat) (rows : List (Option Addr × Nat × Nat)) (files : List (List (List UInt8))) (w : World) (hA : Rows2 w w.heap.size A n rows files)
    (hn : n ≤ 1000) (hnm : n * m ≤ 90000) (hn2 : ∀ f ∈ files, f.length ≤ m) :
    Calls Tryz.prog 48 #[.slice A n c] w fun e w' => AllOut w w' e (numsL (withAll [] files.flatten) files) := by
  have hlen : files.length = n := by have := hA.1.1; have := hA.2.1; simp at *; omega
  obtain ⟨fin, hfin⟩ : ∃ fin, fin = withAll [] files.flatten := ⟨_, rfl⟩
  rw [← hfin]
  have hfh : Hid (withAll [] files.flatten <+: fin) := Lib.hid (by rw [hfin]; exact List.prefix_refl _)
  clear hfin
  obtain ⟨i0, hi, hz0, hz1, hz2⟩ := info_parts info3
  obtain ⟨i1, gi, gz0, gz1, gz2⟩ := info_parts info39
  go_enter Tryz.func48, Tryz.ntmps48
  go_wp2
  go_loopw [3, 4, 5] (fun sv x i wr => ∃ (k : Nat) (v : Value) (X : Option Addr) (nx cx : Nat) (rs : List (Option Addr × Nat × Nat)), k ≤ n ∧ i = .int .i64 k ∧ v = sv ∧ x = .slice X nx cx ∧ OutIn w wr v X nx rs files fin k) (fun _ _ i _ => n - (intOf i).toNat)
  case atStart => exact ⟨0, _, none, 0, 0, [], Nat.zero_le _, rfl, rfl, rfl, rfl, ⟨rfl, fun h => by omega⟩, (fun b o e => by cases e), rfl, World.ownsRow_nil _ _ _ _, fun i r f h => by simp at h, .refl _ _⟩
  case round =>
    obtain ⟨k, v, X, nx, cx, rs, hk, rfl, rfl, rfl, hO⟩ := hrel
    obtain ⟨wi, rfl⟩ : ∃ wi : World, wi = wr := ⟨_, rfl⟩
    have hOh := Lib.hid hO
    obtain ⟨hnx, hS, hX, hrl, hvo, hrows, hB⟩ := hO
    clear hrows hrl
    by_cases hlt : k < n
    · obtain ⟨b, o, A', n', c', f, rfl, hb, hf, hc0, hst⟩ := hA.at_ (k := k) hlt
      have hc := (hB.cell (p := ⟨b, o + k, none⟩) hb).trans hc0
      have hfl := hst.len
      have hf9 := hn2 f (List.mem_of_getElem? hf)
      have hvlt : ∀ j, v.ownBlock = some j → j < wi.heap.size := fun j e => (hvo.lt j e).2
      have hin0 : InIn wi wi v X nx (.slice none 0 0) (withAll [] (files.take k).flatten) f fin 0 := in_start hnx hS hX
      have hpre : Hid (withAll (withAll [] (files.take k).flatten) f <+: fin) := Lib.hid (by
        refine List.IsPrefix.trans ?_ hfh.out
        have : files.flatten = ((files.take k).flatten ++ f) ++ (files.drop (k + 1)).flatten := by
          conv => lhs; rw [← List.take_append_drop k files, drop_at hf]
          simp
        rw [← withAll_app]
        conv => rhs; rw [this, withAll_app]
        exact withAll_pre _ _)
      have hcount : Hid ((withAll [] (files.take k).flatten).length + f.length ≤ 90000) := Lib.hid (by
        have h1 := withAll_len (files.take k).flatten []
        have h2 : (files.take k).flatten.length ≤ k * m := by
          rw [List.length_flatten]
          refine Nat.le_trans (sum_le (files.take k) m (fun f hf => hn2 f (List.mem_of_mem_take hf))) ?_
          exact Nat.mul_le_mul_right _ (List.length_take_le _ _)
        have h3 : (k + 1) * m ≤ n * m := Nat.mul_le_mul_right _ hlt
        rw [Nat.add_mul, Nat.one_mul] at h3
        rw [List.length_nil, Nat.zero_add] at h1
        omega)
      have hnxh := Lib.hid hnx
      have hsz : w.heap.size ≤ wi.heap.size := hB.size
      have hf90 : f.length ≤ 90000 := by have := hcount.out; omega
      clear hS hX hnx hn2 hnm
      go_wp2
      go_loopw [4, 6, 7] (fun x sl j wr => ∃ (i : Nat) (l : Value) (X2 : Option Addr) (n2 c2 : Nat), i ≤ n' ∧ j = .int .i64 i ∧ l = sl ∧ x = .slice X2 n2 c2 ∧ InIn wi wr v X2 n2 l (withAll [] (files.take k).flatten) f fin i) (fun _ _ j _ => n' - (intOf j).toNat)
      case atStart => exact ⟨0, _, X, nx, cx, Nat.zero_le _, rfl, rfl, rfl, hin0⟩
      case round =>
        obtain ⟨j, l, X2, n2, c2, hj, rfl, rfl, rfl, hI⟩ := hrel
        obtain ⟨wo, rfl⟩ : ∃ wo : World, wo = wr := ⟨_, rfl⟩
        have hIh := Lib.hid hI
        obtain ⟨hn2, hS2, hX2, hl, hBi⟩ := hI
        have hwB : w.heap.size ≤ wi.heap.size := hsz
        have hc1 := (hBi.cell (p := ⟨b, o + k, none⟩) (by show b < _; omega)).trans hc
        by_cases hlt' : j < n'
        · obtain ⟨b', o', t, rfl, hb', ht, hd0⟩ := (hst.below (hB.trans (hBi.mono hwB))).at_ (k := j) hlt'
          have hcnt : n2 ≤ 100000 := by
            have h1 := withAll_len (f.take j) (withAll [] (files.take k).flatten)
            have h2 := List.length_take_le j f
            have h3 := hcount.out
            omega
          have hS2' := Lib.hid hS2
          have hlh := Lib.hid hl
          have hjm : Hid (j + 1 ≤ maxLen ∧ (j + 1) * 8 ≤ 140737488355328) := Lib.hid ⟨by unfold maxLen; omega, by omega⟩
          clear hX2 hn2 hS2 hc0 hin0
          go_wp2_with (first
            | (go_at_call 83; refine (rId_any _ _ _ _ t _ hcnt hS2'.out).mono ?_; rintro e w1 ⟨X', n'', c'', hX', rfl, rfl, hS', hB1⟩; have hl1 := ownsRow_kept hlh.out (fun q e => hB1.block q (hlh.out.lt q e).2); have hs1 := hB1.size)
            | (at_builtin; refine wpList_append_own_at _ rfl _ _ 75 rfl wi.heap.size 3 i0 (.int .i64 0) 1 8 Tryz.underlying75 hi hz0 hz1 hz2 rfl (by decide) l j _ rfl (hl1.alloc _) ⟨w1.heap.size, 0, none⟩ 1 1 [.int .i64 _] rfl rfl (cell_one_new _ _ _) (by simp [Value.oneCell']) hjm.out.1 hjm.out.2 (by have := hBi.size; simp; omega) ?_; intro l' w2 hown2 hg2 hnil2 hloc2; clear hnil2))
          go_roundw
          case rel => exact ⟨j + 1, l', X', _, c'', by omega, by go_num, rfl, rfl, in_step ht hpre.out hvlt hIh.out hX' hS' hB1 hown2 hg2 hloc2⟩
          case measure => simp [intOf]; omega
        · obtain rfl : j = n' := by omega
          obtain ⟨Al, cl, rfl, _, _, _⟩ := own_slice hl
          have hvw : wo.ownsRow w.heap.size 75 1 v k _ := ownsRow_kept hvo (fun q e => hBi.block q (hvlt q e))
          have hkm : Hid (k + 1 ≤ maxLen ∧ (k + 1) * 24 ≤ 140737488355328) := Lib.hid ⟨by unfold maxLen; omega, by omega⟩
          have hso := hBi.size
          go_wp2_with (at_builtin; refine wpList_append_own_at _ rfl _ _ 73 rfl w.heap.size 75 i1 (.slice none 0 0) 1 24 Tryz.underlying73 gi gz0 gz1 gz2 rfl (by decide) v k _ rfl (hvw.alloc _) ⟨wo.heap.size, 0, none⟩ 1 1 [.slice Al j cl] rfl rfl (cell_one_new _ _ _) (by simp [Value.oneCell']) hkm.out.1 hkm.out.2 (by simp; omega) ?_; intro v' w2 hown2 hg2 hnil2 hloc2; clear hnil2)
          go_roundw
          case rel =>
            have hjl : j = f.length := by omega
            exact ⟨k + 1, v', X2, _, c2, rs ++ [(Al, j, cl)], by omega, by go_num, rfl, rfl, out_step hf hfh.out hOh.out (by have := hIh.out; rw [hn2] at this; rw [hjl] at this ⊢; exact this) hown2 hg2 hloc2⟩
          case measure => simp [intOf]; omega
    · go_wp2
      go_ret
      obtain rfl : k = n := by omega
      exact out_end hlen hOh.out
theorem rAll_any (A : Option Addr) (n c : Nat) (rows : List (Option Addr × Nat × Nat)) (files : List (List (List UInt8))) (w : World) (hA : Rows2 w w.heap.size A n rows files)
    (hn : n ≤ 1000) (hn2 : ∀ f ∈ files, f.length ≤ 90) :
    Calls Tryz.prog 48 #[.slice A n c] w fun e w' => AllOut w w' e (numsL (withAll [] files.flatten) files) := rAllS_any 90 A n c rows files w hA hn (by omega) hn2
end Go.Proofs.YtoopdgohdeddoaaGreatDoor
/- Proved here, without conditions on the program: rows of slices of numbers of the call's own. -/
namespace Go.Proofs.YtoopdgohdeddoaaGreatDoor
open Go.RowKit
set_option linter.unusedVariables false

theorem RowsN.up {w w' : World} {A : Option Addr} {n : Nat} {rows : List (Option Addr × Nat × Nat)} {xss : List (List Int)} (h : RowsN w w.heap.size A n rows xss) (hb : Below w.heap.size w w') : RowsN w' w'.heap.size A n rows xss := (RowsN.below h hb).more hb.size
/-- Rows of numbers of the call's own, none of which lies in the blocks of Z. -/
structure RowsIn (w wr : World) (v : Value) (Z : Nat → Prop) (rows : List (Option Addr × Nat × Nat)) (xss : List (List Int)) : Prop where
  own : wr.ownsRow w.heap.size 75 1 v rows.length (rows.map fun r => .slice r.1 r.2.1 r.2.2)
  len : rows.length = xss.length
  row : ∀ (k : Nat) (r : Option Addr × Nat × Nat) (xs : List Int), rows[k]? = some r → xss[k]? = some xs → r.2.1 ≤ r.2.2 ∧ r.2.2 ≤ maxLen ∧ Nums wr wr.heap.size r.1 r.2.1 xs ∧ (0 < r.2.1 → ∀ q o, r.1 = some ⟨q, o, none⟩ → v.ownBlock ≠ some q ∧ ¬ Z q)

section
variable {w wr w1 w2 : World} {v v' : Value} {Z : Nat → Prop} {rows : List (Option Addr × Nat × Nat)} {xss : List (List Int)}
/-- Kept, where neither the row's own block nor the rows' turn. -/
theorem RowsIn.kept (h : RowsIn w wr v Z rows xss) (hs : wr.heap.size ≤ w1.heap.size) (hk : ∀ k, k < wr.heap.size → ¬ Z k → w1.heap[k]? = wr.heap[k]?) (hZ : ∀ k, v.ownBlock = some k → ¬ Z k) : RowsIn w w1 v Z rows xss := by
  refine ⟨ownsRow_kept h.own fun k e => hk k (h.own.lt k e).2 (hZ k e), h.len, fun k r xs h1 h2 => ?_⟩
  obtain ⟨e1, e2, e3, e4⟩ := h.row k r xs h1 h2
  refine ⟨e1, e2, ⟨e3.1, fun hn => ?_⟩, e4⟩
  obtain ⟨b, o, ha, hb, hc⟩ := e3.2 hn
  exact ⟨b, o, ha, by omega, fun j u hu => (World.cell?_of_block (w := wr) (hk b hb (e4 hn b o ha).2)).trans (hc j u hu)⟩
theorem RowsIn.put {r : Option Addr × Nat × Nat} {xs : List Int} {o : Obj} (h : RowsIn w w1 v Z rows xss) (hr1 : r.2.1 ≤ r.2.2) (hr2 : r.2.2 ≤ maxLen) (hr3 : Nums w1 w1.heap.size r.1 r.2.1 xs) (hr4 : 0 < r.2.1 → ∀ q o, r.1 = some ⟨q, o, none⟩ → v.ownBlock ≠ some q ∧ ¬ Z q)
    (hown : w2.ownsRow w.heap.size 75 1 v' (rows.length + 1) ((rows.map fun r => .slice r.1 r.2.1 r.2.2) ++ [.slice r.1 r.2.1 r.2.2])) (hg : (w1.alloc o).grownBy w2 v.ownBlock) (hloc : v'.ownBlock = v.ownBlock ∨ v'.ownBlock = some (w1.alloc o).heap.size) : RowsIn w w2 v' Z (rows ++ [r]) (xss ++ [xs]) := by
  have hs : w1.heap.size + 1 ≤ w2.heap.size := by have := hg.size; simpa using this
  have keepN : ∀ (r : Option Addr × Nat × Nat) (xs : List Int), Nums w1 w1.heap.size r.1 r.2.1 xs → (0 < r.2.1 → ∀ q o, r.1 = some ⟨q, o, none⟩ → v.ownBlock ≠ some q ∧ ¬ Z q) → Nums w2 w2.heap.size r.1 r.2.1 xs ∧ (0 < r.2.1 → ∀ q o, r.1 = some ⟨q, o, none⟩ → v'.ownBlock ≠ some q ∧ ¬ Z q) := by
    intro r xs h3 h4
    refine ⟨⟨h3.1, fun hn => ?_⟩, fun hn q o' e => ?_⟩
    · obtain ⟨b, o', ha, hb, hc⟩ := h3.2 hn
      have hne := (h4 hn b o' ha).1
      refine ⟨b, o', ha, by omega, fun j u hu => ?_⟩
      rw [World.cell?_of_block (w := w1.alloc o) (hg.block b (by simp; omega) (fun e => hne e.symm)), World.cell?_of_block (w := w1) (Below.heap_alloc w1 o b hb)]
      exact hc j u hu
    · obtain ⟨h5, h6⟩ := h4 hn q o' e
      obtain ⟨b, o2, ha, hb, _⟩ := h3.2 hn
      rw [e] at ha
      injection ha with ha
      injection ha with ha1 ha2
      refine ⟨?_, h6⟩
      rcases hloc with h | h
      · rw [h]; exact h5
      · rw [h]
        intro h7
        injection h7 with h7
        simp at h7
        omega
  refine ⟨by simpa using hown, by simp [h.len], fun k r' xs' h1 h2 => ?_⟩
  have hl := h.len
  rcases Nat.lt_or_ge k rows.length with hk | hk
  · rw [List.getElem?_append_left hk] at h1
    rw [List.getElem?_append_left (by omega)] at h2
    obtain ⟨e1, e2, e3, e4⟩ := h.row k r' xs' h1 h2
    obtain ⟨f1, f2⟩ := keepN r' xs' e3 e4
    exact ⟨e1, e2, f1, f2⟩
  · rw [List.getElem?_append_right hk] at h1
    rw [List.getElem?_append_right (by omega)] at h2
    have hk0 : k = rows.length := by
      have := (List.getElem?_eq_some_iff.1 h1).1
      simp at this
      omega
    subst hk0
    simp at h1
    simp [hl] at h2
    subst h1
    subst h2
    obtain ⟨f1, f2⟩ := keepN r xs hr3 hr4
    exact ⟨hr1, hr2, f1, f2⟩
theorem RowsIn.reads (h : RowsIn w wr v Z rows xss) : ∃ A c, v = .slice A rows.length c ∧ rows.length ≤ c ∧ c ≤ maxLen ∧ RowsN wr wr.heap.size A rows.length rows xss := by
  obtain ⟨A, c, e, h1, h2, h3⟩ := own_slice h.own
  exact ⟨A, c, e, h1, h2, h3, h.len, fun k r xs a b => (h.row k r xs a b).2.2.1⟩
end
end Go.Proofs.YtoopdgohdeddoaaGreatDoor
/- Proved here, without conditions on the program: slices of changes that read as a list; a row of the call's own of them. -/
namespace Go.Proofs.YtoopdgohdeddoaaGreatDoor
open Go.RowKit
set_option linter.unusedVariables false

/-- The cells of a change, and of changes. -/
def chC (c : Ch) : List Value := [.int .i64 c.1.1, .int .i64 c.1.2, .int .i64 c.2.1, .int .i64 c.2.2]
def chCs (cs : List Ch) : List Value := cs.flatMap chC
/-- A change as a value. -/
def chV (c : Ch) : Value := .agg #[.agg #[.int .i64 c.1.1, .int .i64 c.1.2], .agg #[.int .i64 c.2.1, .int .i64 c.2.2]]

/-- A slice of changes that reads as cs. -/
def Chs (w : World) (B : Nat) (A : Option Addr) (n : Nat) (cs : List Ch) : Prop :=
  cs.length = n ∧ (0 < n → ∃ b o : Nat, A = some ⟨b, o, none⟩ ∧ b < B ∧ ∀ j c, cs[j]? = some c →
    w.cell? ⟨b, o + j * 4, none⟩ = some (.int .i64 c.1.1) ∧ w.cell? ⟨b, o + j * 4 + 1, none⟩ = some (.int .i64 c.1.2) ∧ w.cell? ⟨b, o + j * 4 + 2, none⟩ = some (.int .i64 c.2.1) ∧ w.cell? ⟨b, o + j * 4 + 3, none⟩ = some (.int .i64 c.2.2))

section
variable {w w' : World} {B B' n : Nat} {A : Option Addr} {cs : List Ch}
theorem Chs.len (h : Chs w B A n cs) : cs.length = n := h.1
theorem Chs.at_ {k : Nat} (h : Chs w B A n cs) (hk : k < n) : ∃ b o c, A = some ⟨b, o, none⟩ ∧ b < B ∧ cs[k]? = some c ∧
    w.cell? ⟨b, o + k * 4, none⟩ = some (.int .i64 c.1.1) ∧ w.cell? ⟨b, o + k * 4 + 1, none⟩ = some (.int .i64 c.1.2) ∧ w.cell? ⟨b, o + k * 4 + 2, none⟩ = some (.int .i64 c.2.1) ∧ w.cell? ⟨b, o + k * 4 + 3, none⟩ = some (.int .i64 c.2.2) := by
  obtain ⟨b, o, e, hb, hc⟩ := h.2 (by omega)
  have hl : k < cs.length := by have := h.1; omega
  exact ⟨b, o, cs[k], e, hb, List.getElem?_eq_getElem hl, hc k _ (List.getElem?_eq_getElem hl)⟩
theorem Chs.keep (h : Chs w B A n cs) (hk : ∀ p : Addr, p.block < B → w'.cell? p = w.cell? p) : Chs w' B A n cs :=
  ⟨h.1, fun hn => by
    obtain ⟨b, o, e, hb, hc⟩ := h.2 hn
    refine ⟨b, o, e, hb, fun j c hj => ?_⟩
    obtain ⟨h1, h2, h3, h4⟩ := hc j c hj
    exact ⟨(hk _ hb).trans h1, (hk _ hb).trans h2, (hk _ hb).trans h3, (hk _ hb).trans h4⟩⟩
theorem Chs.more (h : Chs w B A n cs) (hB : B ≤ B') : Chs w B' A n cs :=
  ⟨h.1, fun hn => by
    obtain ⟨b, o, e, hb, hc⟩ := h.2 hn
    exact ⟨b, o, e, by omega, hc⟩⟩
theorem Chs.below (h : Chs w B A n cs) (hb : Below B w w') : Chs w' B A n cs := h.keep fun _ hp => hb.cell hp
theorem Chs.drewN (h : Chs w B A n cs) (q : Nat) : Chs (w.drewN q) B A n cs := h.keep fun _ _ => rfl
theorem Chs.drew (h : Chs w B A n cs) : Chs w.drew B A n cs := h.keep fun _ _ => rfl
theorem Chs.up (h : Chs w w.heap.size A n cs) (hb : Below w.heap.size w w') : Chs w' w'.heap.size A n cs := (h.below hb).more hb.size
theorem Nums.up {l : List Int} (h : Nums w w.heap.size A n l) (hb : Below w.heap.size w w') : Nums w' w'.heap.size A n l := (Nums.below h hb).more hb.size
theorem Chs.nil (w : World) (B : Nat) (A : Option Addr) : Chs w B A 0 [] := ⟨rfl, fun h => absurd h (by omega)⟩

theorem chCs_len : ∀ cs : List Ch, (chCs cs).length = cs.length * 4
  | [] => rfl
  | c :: cs => by
    show (chC c ++ chCs cs).length = _
    rw [List.length_append, chCs_len cs, List.length_cons]
    show 4 + cs.length * 4 = _
    omega
theorem chCs_at : ∀ (cs : List Ch) (j r : Nat) (c : Ch), cs[j]? = some c → r < 4 → (chCs cs)[j * 4 + r]? = (chC c)[r]?
  | [], _, _, _, h, _ => by simp at h
  | d :: cs, 0, r, c, h, hr => by
    simp at h
    subst h
    show (chC d ++ chCs cs)[0 * 4 + r]? = _
    rw [Nat.zero_mul, Nat.zero_add, List.getElem?_append_left (by show r < 4; exact hr)]
  | d :: cs, j + 1, r, c, h, hr => by
    show (chC d ++ chCs cs)[(j + 1) * 4 + r]? = _
    rw [List.getElem?_append_right (by show 4 ≤ _; omega), show (j + 1) * 4 + r - (chC d).length = j * 4 + r by show (j + 1) * 4 + r - 4 = _; omega]
    exact chCs_at cs j r c (by simpa using h) hr
theorem chCs_snoc (cs : List Ch) (c : Ch) : chCs (cs ++ [c]) = chCs cs ++ chC c := by simp [chCs]
theorem chC_one (c : Ch) : ∀ u ∈ chC c, u.oneCell' = true := by
  intro u hu
  simp [chC] at hu
  rcases hu with rfl | rfl | rfl | rfl <;> rfl

/-- A row of changes of the call's own reads as them. -/
theorem chs_of_own {base : Nat} {e : TypeId} {v : Value} (h : w.ownsRow base e 4 v n (chCs cs)) : ∃ A c, v = .slice A n c ∧ n ≤ c ∧ c ≤ maxLen ∧ Chs w w.heap.size A n cs := by
  have hl : cs.length = n := by have := h.1; rw [chCs_len] at this; omega
  have hread : ∀ (g c : Nat), v = .slice (some ⟨g, 0, none⟩) n c → Chs w w.heap.size (some ⟨g, 0, none⟩) n cs := by
    rintro g c rfl
    refine ⟨hl, fun hn => ⟨g, 0, rfl, (h.lt g rfl).2, fun j c hj => ?_⟩⟩
    have hc := h.cells (g := g) rfl
    have hadd : ∀ k, (⟨g, 0, none⟩ : Addr).add k = ⟨g, k, none⟩ := fun k => by unfold Addr.add; split <;> simp_all
    have key : ∀ r, r < 4 → ∀ u, (chC c)[r]? = some u → w.cell? ⟨g, 0 + j * 4 + r, none⟩ = some u := fun r hr u hu => by
      rw [Nat.zero_add, ← hadd]
      exact hc _ u ((chCs_at cs j r c hj hr).trans hu)
    exact ⟨key 0 (by omega) _ rfl, key 1 (by omega) _ rfl, key 2 (by omega) _ rfl, key 3 (by omega) _ rfl⟩
  rcases h.2 with ⟨rfl, rfl⟩ | ⟨g, cap, cur, rfl, _, _, hnc, hcm, _⟩
  · exact ⟨none, 0, rfl, Nat.le_refl _, Nat.zero_le _, hl, fun h => absurd h (by omega)⟩
  · exact ⟨_, cap, rfl, hnc, hcm, hread g cap rfl⟩
end

/-- Numbers that have come as far as place k. -/
def ChOut (w w' : World) (e : Ending) (er : Int) (cs : List Ch) : Prop := ∃ A n c, e = .returned (.tuple #[.slice A n c, .int .i64 er]) ∧ n = cs.length ∧ n ≤ c ∧ c ≤ maxLen ∧ Chs w' w'.heap.size A n cs ∧ Below w.heap.size w w'
theorem ChOut.nothing {w w' : World} {er : Int} (hb : Below w.heap.size w w') : ChOut w w' (.returned (.tuple #[.slice none 0 0, .int .i64 er])) er [] := ⟨none, 0, 0, rfl, rfl, Nat.le_refl _, Nat.zero_le _, Chs.nil _ _ _, hb⟩

/-- What Changes tells: a number of an error, and the changes. -/
def chErr (l : List Int) (N : Int) : Int := if 2000 < l.length ∨ 2000 < N then 4 else if may l N = true then 0 else 1
def chRes (l : List Int) (N : Int) : List Ch := if chErr l N = 0 then chs l N else []

/-- A number that an int may hold. -/
def inR (v : Int) : Prop := -9223372036854775808 ≤ v ∧ v ≤ 9223372036854775807
def NumsR (l : List Int) : Prop := ∀ v ∈ l, inR v
def ChsR (l : List Ch) : Prop := ∀ c ∈ l, inR c.1.1 ∧ inR c.1.2 ∧ inR c.2.1 ∧ inR c.2.2
end Go.Proofs.YtoopdgohdeddoaaGreatDoor
/- Proved here, without conditions on the program: rows of slices of numbers of the call's own. -/
namespace Go.Proofs.YtoopdgohdeddoaaGreatDoor
open Go.RowKit
set_option linter.unusedVariables false

/-- Numbers of the call's own. -/
def OwnNums (w w' : World) (e : Ending) (xs : List Int) : Prop := ∃ v, e = .returned v ∧ w'.ownsRow w.heap.size 3 1 v xs.length (xs.map fun x => .int .i64 x) ∧ Below w.heap.size w w'

end Go.Proofs.YtoopdgohdeddoaaGreatDoor
/- Proved here: what the model tells of numbers, and of slices of numbers, as elements. -/
namespace Go.Proofs.YtoopdgohdeddoaaGreatDoor
open Go.RowKit
set_option linter.unusedVariables false

theorem infoIntA : (Tryz.prog.info? 3).map (fun i => (i.zero, i.size, i.bytes)) = some (some (.int .i64 0), 1, 8) := by kernel_rfl
theorem infoRowA : (Tryz.prog.info? 75).map (fun i => (i.zero, i.size, i.bytes)) = some (some (.slice none 0 0), 1, 24) := by kernel_rfl
end Go.Proofs.YtoopdgohdeddoaaGreatDoor
