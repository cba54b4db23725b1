/- Proved here: contracts of the document's own All, and Same, of layer 2. -/
import Derived.Test.YtaniikdnlebknaaIRef
namespace Go.Proofs.Ytaniikdnlebknaa
open Go.RowKit Go.Maps Go.WideMaps
set_option linter.unusedVariables false

/-- The document's table, in the slice at X, and the numbers of j texts of f, in the slice value l. -/
def InIn (wi wr : World) (v : Value) (X : Option Addr) (nx : Nat) (l : Value) (ts f fin : List (List UInt8)) (j : Nat) : Prop :=
  nx = (withAll ts (f.take j)).length ∧ Strs wr wr.heap.size X nx (withAll ts (f.take j)) ∧ (∀ b o, X = some ⟨b, o, none⟩ → b < wr.heap.size ∧ v.ownBlock ≠ some b ∧ l.ownBlock ≠ some b) ∧
    wr.ownsRow wi.heap.size 3 1 l j ((f.take j).map fun s => .int .i64 (numOf fin s)) ∧ Below wi.heap.size wi wr

/-- .. and the rows of k files, in the slice value v. -/
def OutIn (w wr : World) (v : Value) (X : Option Addr) (nx : Nat) (rs : List (Option Addr × Nat × Nat)) (files : List (List (List UInt8))) (fin : List (List UInt8)) (k : Nat) : Prop :=
  nx = (withAll [] (files.take k).flatten).length ∧ Strs wr wr.heap.size X nx (withAll [] (files.take k).flatten) ∧ (∀ b o, X = some ⟨b, o, none⟩ → b < wr.heap.size ∧ v.ownBlock ≠ some b) ∧
    rs.length = k ∧ wr.ownsRow w.heap.size 39 1 v k (rs.map fun r => .slice r.1 r.2.1 r.2.2) ∧
    (∀ (i : Nat) (r : Option Addr × Nat × Nat) (f : List (List UInt8)), rs[i]? = some r → files[i]? = some f → wr.ownsRow w.heap.size 3 1 (.slice r.1 r.2.1 r.2.2) f.length (f.map fun s => .int .i64 (numOf fin s))) ∧ Below w.heap.size w wr

section
variable {w wi wr w1 w2 : World} {v l l' : Value} {X X' : Option Addr} {nx n' j k : Nat} {ts f fin : List (List UInt8)} {t : List UInt8} {files : List (List (List UInt8))} {rs : List (Option Addr × Nat × Nat)}
theorem Strs.grown {B n : Nat} {A : Option Addr} {ss : List (List UInt8)} {row : Option Nat} (h : Strs w1 B A n ss) (hB : B ≤ w1.heap.size) (hg : w1.grownBy w2 row) (hr : ∀ b o, A = some ⟨b, o, none⟩ → row ≠ some b) : Strs w2 B A n ss := by
  refine ⟨h.1, fun hn => ?_⟩
  obtain ⟨b, o, rfl, hlt, hc⟩ := h.2 hn
  exact ⟨b, o, rfl, hlt, fun i u hu => (World.cell?_of_block (w := w1) (hg.block b (by omega) (fun e => hr b o rfl e.symm))).trans (hc i u hu)⟩
theorem in_start (h : nx = ts.length) (hS : Strs wi wi.heap.size X nx ts) (hX : ∀ b o, X = some ⟨b, o, none⟩ → b < wi.heap.size ∧ v.ownBlock ≠ some b) : InIn wi wi v X nx (.slice none 0 0) ts f fin 0 :=
  ⟨h, hS, fun b o e => ⟨(hX b o e).1, (hX b o e).2, by simp [Value.ownBlock]⟩, World.ownsRow_nil _ _ _ _, .refl _ _⟩
theorem in_step (hj : f[j]? = some t) (hfin : withAll ts f <+: fin) (hv : ∀ b, v.ownBlock = some b → b < wi.heap.size) (h : InIn wi wr v X nx l ts f fin j)
    (hX' : ∀ b o, X' = some ⟨b, o, none⟩ → X' = X ∨ wr.heap.size ≤ b) (hS' : Strs w1 w1.heap.size X' (withText (withAll ts (f.take j)) t).length (withText (withAll ts (f.take j)) t)) (hB1 : Below wr.heap.size wr w1)
    {o1 : Obj} (hown : w2.ownsRow wi.heap.size 3 1 l' (j + 1) (((f.take j).map fun s => .int .i64 (numOf fin s)) ++ [.int .i64 (numOf (withAll ts (f.take j)) t)])) (hg : (w1.alloc o1).grownBy w2 l.ownBlock)
    (hloc : l'.ownBlock = l.ownBlock ∨ l'.ownBlock = some (w1.alloc o1).heap.size) : InIn wi w2 v X' (withText (withAll ts (f.take j)) t).length l' ts f fin (j + 1) := by
  obtain ⟨_, hS, hX, hl, hB⟩ := h
  have hta : withAll ts (f.take (j + 1)) = withText (withAll ts (f.take j)) t := by rw [take_at hj, withAll_app]; rfl
  have hnum : numOf (withAll ts (f.take j)) t = numOf fin t := by
    refine numOf_pre (List.IsPrefix.trans ?_ hfin)
    rw [← hta]
    conv => rhs; rw [← List.take_append_drop (j + 1) f, withAll_app]
    exact withAll_pre _ _
  have hpos : 0 < (withText (withAll ts (f.take j)) t).length := List.length_pos_of_mem (withText_mem _ _)
  have hllt : ∀ b, l.ownBlock = some b → wi.heap.size ≤ b ∧ b < wr.heap.size := hl.lt
  have hX2 : ∀ b o, X' = some ⟨b, o, none⟩ → b < w1.heap.size ∧ v.ownBlock ≠ some b ∧ l.ownBlock ≠ some b := fun b o e => by
    obtain ⟨b', o', e', hlt, _⟩ := hS'.2 hpos
    rw [e] at e'
    injection e' with e'; injection e' with e1 _; subst e1
    refine ⟨hlt, ?_⟩
    rcases hX' b o e with h | h
    · exact (hX b o (h ▸ e)).2
    · exact ⟨fun e => by have := hv b e; have := hB.size; omega, fun e => by have := (hllt b e).2; omega⟩
  refine ⟨by rw [hta], ?_, fun b o e => ?_, ?_, ?_⟩
  · rw [hta]
    exact ((hS'.below ((Below.refl _ _).alloc (Nat.le_refl _) o1)).grown (by simp) hg (fun b o e => (hX2 b o e).2.2)).more (by have := hg.size; simp at this; omega)
  · obtain ⟨h1, h2, h3⟩ := hX2 b o e
    refine ⟨by have := hg.size; simp at this; omega, h2, ?_⟩
    rcases hloc with h | h
    · rw [h]; exact h3
    · rw [h]; simp; omega
  · rw [take_at hj, List.map_append]
    simpa [hnum] using hown
  · have h1 : wi.heap.size ≤ wr.heap.size := hB.size
    have h2 : wr.heap.size ≤ w1.heap.size := hB1.size
    exact ((hB.trans (hB1.mono h1)).alloc (by omega) o1).grown hg (by simp; omega) (fun b e => (hllt b e).1)
theorem out_step (hk : files[k]? = some f) (hfin : withAll [] files.flatten <+: fin) (h : OutIn w wi v X nx rs files fin k) {X2 : Option Addr} {n2 : Nat} {A : Option Addr} {nl c : Nat}
    (hi : InIn wi wr v X2 n2 (.slice A nl c) (withAll [] (files.take k).flatten) f fin f.length) {o1 : Obj} {v' : Value}
    (hown : w2.ownsRow w.heap.size 39 1 v' (k + 1) ((rs.map fun r => .slice r.1 r.2.1 r.2.2) ++ [.slice A nl c])) (hg : (wr.alloc o1).grownBy w2 v.ownBlock)
    (hloc : v'.ownBlock = v.ownBlock ∨ v'.ownBlock = some (wr.alloc o1).heap.size) : OutIn w w2 v' X2 n2 (rs ++ [(A, nl, c)]) files fin (k + 1) := by
  obtain ⟨_, hS, hX, hlen, hvo, hrows, hB⟩ := h
  obtain ⟨h1, hS2, hX2, hl, hBi⟩ := hi
  rw [List.take_length] at h1 hS2 hl
  have hta : withAll [] (files.take (k + 1)).flatten = withAll (withAll [] (files.take k).flatten) f := by
    rw [take_at hk, List.flatten_append, withAll_app]; simp
  have hvlt : ∀ b, v.ownBlock = some b → w.heap.size ≤ b ∧ b < wi.heap.size := hvo.lt
  have hwi : w.heap.size ≤ wi.heap.size := hB.size
  have hir : wi.heap.size ≤ wr.heap.size := hBi.size
  have keep : ∀ {u : Value} {m : Nat} {xs : List Value} {base : Nat}, wr.ownsRow base 3 1 u m xs → w2.ownsRow base 3 1 u m xs := fun {u m xs base} hu => by
    refine (hu.alloc o1).kept hg ?_
    rcases hu.2 with ⟨rfl, _⟩ | ⟨g, cap, cur, rfl, hbg, hgg, _⟩
    · exact .inl rfl
    · refine .inr fun e => ?_
      rcases hvo.2 with ⟨rfl, _⟩ | ⟨g', cap', cur', rfl, _, hgg', _⟩
      · simp [Value.ownBlock] at e
      · simp only [Value.ownBlock, Option.some.injEq] at e
        subst e
        have hlt := (hvlt _ rfl).2
        rw [← hBi.block _ hlt, hgg] at hgg'
        injection hgg' with hgg'
        simp at hgg'
  refine ⟨by rw [hta]; exact h1, ?_, fun b o e => ?_, by simp [hlen], by simpa using hown, fun i r g hr hg' => ?_, ?_⟩
  · rw [hta]
    exact ((hS2.below ((Below.refl _ _).alloc (Nat.le_refl _) o1)).grown (by simp) hg (fun b o e => (hX2 b o e).2.1)).more (by have := hg.size; simp at this; omega)
  · obtain ⟨h1, h2, _⟩ := hX2 b o e
    refine ⟨by have := hg.size; simp at this; omega, ?_⟩
    rcases hloc with h | h
    · rw [h]; exact h2
    · rw [h]; simp; omega
  · rcases Nat.lt_or_ge i k with hi | hi
    · rw [List.getElem?_append_left (by omega)] at hr
      have := hrows i r g hr hg'
      refine keep (ownsRow_kept this fun b e => hBi.block b (this.lt b e).2)
    · have hik : i = k := by
        have := (List.getElem?_eq_some_iff.1 hr).1
        simp at this; omega
      subst hik
      rw [List.getElem?_append_right (by omega), hlen, Nat.sub_self] at hr
      simp at hr
      subst hr
      rw [hk] at hg'
      injection hg' with hg'
      subst hg'
      have := keep hl
      refine ⟨this.1, ?_⟩
      rcases this.2 with h | ⟨g, cap, cur, e1, e2, r⟩
      · exact .inl h
      · exact .inr ⟨g, cap, cur, e1, by omega, r⟩
  · exact ((hB.trans (hBi.mono hwi)).alloc (by omega) o1).grown hg (by simp; omega) (fun b e => (hvlt b e).1)

theorem out_end {n : Nat} (hn : files.length = n) (h : OutIn w wr v X nx rs files fin n) : AllOut w wr (.returned v) (numsL fin files) := by
  obtain ⟨_, _, _, hlen, hvo, hrows, hB⟩ := h
  obtain ⟨A, c, rfl, hnc, hcm, hr⟩ := own_slice hvo
  refine ⟨A, n, c, rs, rfl, hnc, hcm, ⟨hr, by simp [numsL, hlen, hn], fun k r xs h1 h2 => ?_⟩, hB⟩
  unfold numsL at h2
  rw [List.getElem?_map] at h2
  cases hf : files[k]? with
  | none => rw [hf] at h2; cases h2
  | some f =>
    rw [hf] at h2
    simp only [Option.map_some, Option.some.injEq] at h2
    subst h2
    have := hrows k r f h1 hf
    obtain ⟨A', c', e, _, _, hr'⟩ := own_slice this
    injection e with e1 e2 e3
    subst e1
    unfold Nums
    have h3 : (f.map fun s => (numOf fin s : Int)).map (fun x => Value.int .i64 x) = f.map fun s => .int .i64 (numOf fin s) := by simp
    rw [h3]
    rw [e2]
    exact hr'
end

set_option maxHeartbeats 1000000 in
theorem rAll_any (A : Option Addr) (n c : Nat) (rows : List (Option Addr × Nat × Nat)) (files : List (List (List UInt8))) (w : World) (hA : Rows2 w w.heap.size A n rows files)
    (hn : n ≤ 1000) (hn2 : ∀ f ∈ files, f.length ≤ 90) :
    Calls Try.prog 17 #[.slice A n c] w fun e w' => AllOut w w' e (numsL (withAll [] files.flatten) files) := by
  have hlen : files.length = n := by have := hA.1.1; have := hA.2.1; simp at *; omega
  obtain ⟨fin, hfin⟩ : ∃ fin, fin = withAll [] files.flatten := ⟨_, rfl⟩
  rw [← hfin]
  have hfh : Hid (withAll [] files.flatten <+: fin) := Lib.hid (by rw [hfin]; exact List.prefix_refl _)
  clear hfin
  obtain ⟨i0, hi, hz0, hz1, hz2⟩ := info_parts info3
  obtain ⟨i1, gi, gz0, gz1, gz2⟩ := info_parts info39
  go_enter Try.func17, Try.ntmps17
  go_wp2
  go_loopw [3, 4, 5] (fun sv x i wr => ∃ (k : Nat) (v : Value) (X : Option Addr) (nx cx : Nat) (rs : List (Option Addr × Nat × Nat)), k ≤ n ∧ i = .int .i64 k ∧ v = sv ∧ x = .slice X nx cx ∧ OutIn w wr v X nx rs files fin k) (fun _ _ i _ => n - (intOf i).toNat)
  case atStart => exact ⟨0, _, none, 0, 0, [], Nat.zero_le _, rfl, rfl, rfl, rfl, ⟨rfl, fun h => by omega⟩, (fun b o e => by cases e), rfl, World.ownsRow_nil _ _ _ _, fun i r f h => by simp at h, .refl _ _⟩
  case round =>
    obtain ⟨k, v, X, nx, cx, rs, hk, rfl, rfl, rfl, hO⟩ := hrel
    obtain ⟨wi, rfl⟩ : ∃ wi : World, wi = wr := ⟨_, rfl⟩
    have hOh := Lib.hid hO
    obtain ⟨hnx, hS, hX, hrl, hvo, hrows, hB⟩ := hO
    clear hrows hrl
    by_cases hlt : k < n
    · obtain ⟨b, o, A', n', c', f, rfl, hb, hf, hc0, hst⟩ := hA.at_ (k := k) hlt
      have hc := (hB.cell (p := ⟨b, o + k, none⟩) hb).trans hc0
      have hfl := hst.len
      have hf90 := hn2 f (List.mem_of_getElem? hf)
      have hvlt : ∀ j, v.ownBlock = some j → j < wi.heap.size := fun j e => (hvo.lt j e).2
      have hin0 : InIn wi wi v X nx (.slice none 0 0) (withAll [] (files.take k).flatten) f fin 0 := in_start hnx hS hX
      have hpre : Hid (withAll (withAll [] (files.take k).flatten) f <+: fin) := Lib.hid (by
        refine List.IsPrefix.trans ?_ hfh.out
        have : files.flatten = ((files.take k).flatten ++ f) ++ (files.drop (k + 1)).flatten := by
          conv => lhs; rw [← List.take_append_drop k files, drop_at hf]
          simp
        rw [← withAll_app]
        conv => rhs; rw [this, withAll_app]
        exact withAll_pre _ _)
      have hcount : Hid ((withAll [] (files.take k).flatten).length ≤ 90000) := Lib.hid (by
        have h1 := withAll_len (files.take k).flatten []
        have h2 : (files.take k).flatten.length ≤ k * 90 := by
          rw [List.length_flatten]
          refine Nat.le_trans (sum_le (files.take k) 90 (fun f hf => hn2 f (List.mem_of_mem_take hf))) ?_
          exact Nat.mul_le_mul_right _ (List.length_take_le _ _)
        rw [List.length_nil, Nat.zero_add] at h1
        omega)
      have hnxh := Lib.hid hnx
      have hsz : w.heap.size ≤ wi.heap.size := hB.size
      clear hS hX hnx hn2
      go_wp2
      go_loopw [4, 6, 7] (fun x sl j wr => ∃ (i : Nat) (l : Value) (X2 : Option Addr) (n2 c2 : Nat), i ≤ n' ∧ j = .int .i64 i ∧ l = sl ∧ x = .slice X2 n2 c2 ∧ InIn wi wr v X2 n2 l (withAll [] (files.take k).flatten) f fin i) (fun _ _ j _ => n' - (intOf j).toNat)
      case atStart => exact ⟨0, _, X, nx, cx, Nat.zero_le _, rfl, rfl, rfl, hin0⟩
      case round =>
        obtain ⟨j, l, X2, n2, c2, hj, rfl, rfl, rfl, hI⟩ := hrel
        obtain ⟨wo, rfl⟩ : ∃ wo : World, wo = wr := ⟨_, rfl⟩
        have hIh := Lib.hid hI
        obtain ⟨hn2, hS2, hX2, hl, hBi⟩ := hI
        have hwB : w.heap.size ≤ wi.heap.size := hsz
        have hc1 := (hBi.cell (p := ⟨b, o + k, none⟩) (by show b < _; omega)).trans hc
        by_cases hlt' : j < n'
        · obtain ⟨b', o', t, rfl, hb', ht, hd0⟩ := (hst.below (hB.trans (hBi.mono hwB))).at_ (k := j) hlt'
          have hcnt : n2 ≤ 100000 := by
            have h1 := withAll_len (f.take j) (withAll [] (files.take k).flatten)
            have h2 := List.length_take_le j f
            have h3 := hcount.out
            omega
          have hS2' := Lib.hid hS2
          have hlh := Lib.hid hl
          have hjm : Hid (j + 1 ≤ maxLen ∧ (j + 1) * 8 ≤ 140737488355328) := Lib.hid ⟨by unfold maxLen; omega, by omega⟩
          clear hX2 hn2 hS2 hc0 hin0
          go_wp2_with (first
            | (go_at_call 11; refine (rId_any _ _ _ _ t _ hcnt hS2'.out).mono ?_; rintro e w1 ⟨X', n'', c'', hX', rfl, rfl, hS', hB1⟩; have hl1 := ownsRow_kept hlh.out (fun q e => hB1.block q (hlh.out.lt q e).2); have hs1 := hB1.size)
            | (at_builtin; refine wpList_append_own_at _ rfl _ _ 39 rfl wi.heap.size 3 i0 (.int .i64 0) 1 8 Try.underlying39 hi hz0 hz1 hz2 rfl (by decide) l j _ rfl (hl1.alloc _) ⟨w1.heap.size, 0, none⟩ 1 1 [.int .i64 _] rfl rfl (cell_one_new _ _ _) (by simp [Value.oneCell']) hjm.out.1 hjm.out.2 (by have := hBi.size; simp; omega) ?_; intro l' w2 hown2 hg2 hnil2 hloc2; clear hnil2))
          go_roundw
          case rel => exact ⟨j + 1, l', X', _, c'', by omega, by go_num, rfl, rfl, in_step ht hpre.out hvlt hIh.out hX' hS' hB1 hown2 hg2 hloc2⟩
          case measure => simp [intOf]; omega
        · obtain rfl : j = n' := by omega
          obtain ⟨Al, cl, rfl, _, _, _⟩ := own_slice hl
          have hvw : wo.ownsRow w.heap.size 39 1 v k _ := ownsRow_kept hvo (fun q e => hBi.block q (hvlt q e))
          have hkm : Hid (k + 1 ≤ maxLen ∧ (k + 1) * 24 ≤ 140737488355328) := Lib.hid ⟨by unfold maxLen; omega, by omega⟩
          have hso := hBi.size
          go_wp2_with (at_builtin; refine wpList_append_own_at _ rfl _ _ 35 rfl w.heap.size 39 i1 (.slice none 0 0) 1 24 Try.underlying35 gi gz0 gz1 gz2 rfl (by decide) v k _ rfl (hvw.alloc _) ⟨wo.heap.size, 0, none⟩ 1 1 [.slice Al j cl] rfl rfl (cell_one_new _ _ _) (by simp [Value.oneCell']) hkm.out.1 hkm.out.2 (by simp; omega) ?_; intro v' w2 hown2 hg2 hnil2 hloc2; clear hnil2)
          go_roundw
          case rel =>
            have hjl : j = f.length := by omega
            exact ⟨k + 1, v', X2, _, c2, rs ++ [(Al, j, cl)], by omega, by go_num, rfl, rfl, out_step hf hfh.out hOh.out (by have := hIh.out; rw [hn2] at this; rw [hjl] at this ⊢; exact this) hown2 hg2 hloc2⟩
          case measure => simp [intOf]; omega
    · go_wp2
      go_ret
      obtain rfl : k = n := by omega
      exact out_end hlen hOh.out
theorem nsame_no {xs ys : List Int} {k : Nat} {x y : Int} (hx : xs[k]? = some x) (hy : ys[k]? = some y) (h : (x != y) = true) : false = decide (xs = ys) := by
  rw [eq_comm, decide_eq_false_iff_not]
  rintro rfl
  rw [hx] at hy
  injection hy with e
  subst e
  simp at h
theorem nsame_yes {xs ys : List Int} {k : Nat} {x y : Int} (hq : xs.take k = ys.take k) (hx : xs[k]? = some x) (hy : ys[k]? = some y) (h : (x != y) = false) : xs.take (k + 1) = ys.take (k + 1) := by
  have e : x = y := by simpa using h
  rw [take_at hx, take_at hy, hq, e]

set_option maxHeartbeats 400000 in
theorem nSame_any (A A' : Option Addr) (n n' c c' B B' : Nat) (xs ys : List Int) (w : World) (hn : n ≤ maxLen) (hn' : n' ≤ maxLen) (hA : Nums w B A n xs) (hA' : Nums w B' A' n' ys) :
    Calls Try.prog 18 #[.slice A n c, .slice A' n' c'] w fun e w' => e = .returned (.bool (decide (xs = ys))) ∧ ∃ k, w' = w.drewN k := by
  unfold maxLen at hn hn'
  have hl := hA.len
  have hl' := hA'.len
  by_cases hnn : n = n'
  · subst hnn
    go_enter Try.func18, Try.ntmps18
    go_wp2
    go_loopw [5] (fun i wr => ∃ k : Nat, k ≤ n ∧ i = .int .i64 k ∧ Hid (xs.take k = ys.take k) ∧ ∃ q, wr = w.drewN q) (fun i _ => n - (intOf i).toNat)
    case atStart => exact ⟨0, Nat.zero_le _, rfl, Lib.hid rfl, 0, rfl⟩
    case round =>
      obtain ⟨k, hk, rfl, hq, q, rfl⟩ := hrel
      by_cases hlt : k < n
      · obtain ⟨b, o, t, rfl, hb, ht, hc0⟩ := hA.at_ (k := k) hlt
        obtain ⟨b', o', t', rfl, hb', ht', hc0'⟩ := hA'.at_ (k := k) hlt
        have hi1 : (0 : Int) ≤ (k : Int) := by omega
        have hi2 : (k : Int) < (n : Int) := by omega
        obtain ⟨bb, hbb⟩ : ∃ bb, (t != t') = bb := ⟨_, rfl⟩
        go_wp2
        go_quiet (fail)
        cases bb
        · go_wp2
          go_roundw
          case rel => exact ⟨k + 1, by omega, by go_num, Lib.hid (nsame_yes hq.out ht ht' hbb), q + nq, rfl⟩
          case measure => simp [intOf]; omega
        · go_wp2
          go_ret
          exact ⟨ret_bool (nsame_no ht ht' hbb), q + nq, World.drewN_drewN _ _ _⟩
      · go_wp2
        go_ret
        exact ⟨ret_bool (by rw [eq_comm, decide_eq_true_iff]; have := hq.out; rwa [List.take_of_length_le (by omega), List.take_of_length_le (by omega)] at this), q, rfl⟩
  · have hne : (((n : Int) != (n' : Int))) = true := by simp; omega
    go_enter Try.func18, Try.ntmps18
    go_wp2
    go_ret
    exact ⟨ret_bool (by rw [eq_comm, decide_eq_false_iff_not]; rintro rfl; omega), 0, rfl⟩
end Go.Proofs.Ytaniikdnlebknaa
