/- Proved here: awake returns true, and nothing that was there has turned. -/
import Derived.Test.YtaniikdnlebknaaIRef
namespace Go.Proofs.Ytaniikdnlebknaa
open Go.RowKit Go.Maps Go.WideMaps
set_option linter.unusedVariables false

theorem After.go {w w' : World} {T : Nat} {F : Nat → Prop} {ts ts' : List (List UInt8)} (h : Tab w T F ts) (ha : After w w' T F ts') : ∃ F', Tab w' T F' ts' ∧ Below T w w' := by
  obtain ⟨F', h1, h2, _⟩ := ha
  have := h.lies T h.head
  exact ⟨F', h1, h2.below (by omega) (fun k hk => (h.lies k hk).1)⟩

/-- A new block of slice values, each of which reads as its list. -/
theorem Rows2.new {w : World} {rows : List (Option Addr × Nat × Nat)} {sss : List (List (List UInt8))} (t : TypeId) (n : Nat) (C : Array Value) (hC : C = (rows.map fun r => Value.slice r.1 r.2.1 r.2.2).toArray) (hn : rows.length = n) (hl : rows.length = sss.length) (h : ∀ (k : Nat) (r : Option Addr × Nat × Nat) (ss : List (List UInt8)), rows[k]? = some r → sss[k]? = some ss → Strs w w.heap.size r.1 r.2.1 ss) :
    Rows2 (w.alloc (.cells C t)) (w.alloc (.cells C t)).heap.size (some ⟨w.heap.size, 0, none⟩) n rows sss := by
  subst hC
  refine ⟨⟨by simpa using hn, fun _ => ⟨w.heap.size, 0, rfl, by simp, fun j u hu => ?_⟩⟩, hl, fun k r ss h1 h2 => ?_⟩
  · rw [World.cell?_alloc_mark]
    simpa using hu
  · exact Reads.more (Reads.keep (h k r ss h1 h2) fun p hp => World.cell?_alloc_lt _ _ p hp) (by simp)
theorem Strs.new {w : World} (ss : List (List UInt8)) (t : TypeId) (n : Nat) (C : Array Value) (hC : C = (ss.map fun s => Value.string (str s)).toArray) (hn : ss.length = n) :
    Strs (w.alloc (.cells C t)) (w.alloc (.cells C t)).heap.size (some ⟨w.heap.size, 0, none⟩) n ss := by
  subst hC
  refine ⟨by simpa using hn, fun _ => ⟨w.heap.size, 0, rfl, by simp, fun j u hu => ?_⟩⟩
  rw [World.cell?_alloc_mark]
  simpa using hu

theorem Id_go (F : Nat → Prop) (T : Nat) (ts : List (List UInt8)) (s : List UInt8) (w : World) (k : Nat) (ts' : List (List UInt8)) (hk : numOf ts s = k) (ht : withText ts s = ts') (h : Tab w T F ts) (hl : s.length ≤ maxLen) (hn : ts.length < 1000000) :
    Calls Try.prog 12 #[.pointer (some ⟨T, 0, none⟩), .string (str s)] w fun e w' => e = .returned (.int .i64 k) ∧ (∃ F', Tab w' T F' ts' ∧ Below T w w') := by
  refine (Id_tab F T ts s w h hl hn).mono ?_
  rintro e w' ⟨rfl, ha⟩
  rw [ht] at ha
  exact ⟨by rw [hk], ha.go h⟩

set_option maxHeartbeats 2000000 in
theorem awake_any (w : World) :
    Calls Try.prog 8 #[] w fun e w' => e = .returned (.bool true) ∧ Below w.heap.size w w' := by
  go_enter Try.func8, Try.ntmps8
  go_wp2_with fail
  refine (New_any _).mono ?_
  rintro e w0 ⟨rfl, hT0, hB0, hs0⟩
  clear hs0
  go_wp2_with fail
  refine (Id_go _ w.heap.size [] [97] _ 0 [[97]] rfl rfl hT0 (by decide) (by decide)).mono ?_
  rintro e w1 ⟨rfl, F1, hT1, hB1⟩
  go_wp2_with fail
  refine (Id_go _ w.heap.size [[97]] [98] _ 1 [[97], [98]] rfl rfl hT1 (by decide) (by decide)).mono ?_
  rintro e w2 ⟨rfl, F2, hT2, hB2⟩
  go_wp2_with fail
  refine (Id_go _ w.heap.size [[97], [98]] [97] _ 0 [[97], [98]] rfl rfl hT2 (by decide) (by decide)).mono ?_
  rintro e w3 ⟨rfl, F3, hT3, hB3⟩
  have hB03 : Below w.heap.size w w3 := ((hB0.trans hB1).trans hB2).trans hB3
  clear hB0 hB1 hB2 hB3 hT0 hT1 hT2
  have hs1 : (w3.alloc (.cells #[.string ⟨#[97]⟩, .string ⟨#[98]⟩, .string ⟨#[97]⟩] 9)).heap.size = w3.heap.size + 1 := by simp
  have hs2 : ((w3.alloc (.cells #[.string ⟨#[97]⟩, .string ⟨#[98]⟩, .string ⟨#[97]⟩] 9)).alloc (.cells #[.string ⟨#[99]⟩, .string ⟨#[97]⟩] 9)).heap.size = w3.heap.size + 1 + 1 := by simp
  have hst0 : Strs _ _ _ 3 [[97], [98], [97]] := Strs.new (w := w3) [[97], [98], [97]] 9 3 #[.string ⟨#[97]⟩, .string ⟨#[98]⟩, .string ⟨#[97]⟩] rfl rfl
  have hst1 : Strs _ _ _ 2 [[99], [97]] := Strs.new (w := w3.alloc (.cells #[.string ⟨#[97]⟩, .string ⟨#[98]⟩, .string ⟨#[97]⟩] 9)) [[99], [97]] 9 2 #[.string ⟨#[99]⟩, .string ⟨#[97]⟩] rfl rfl
  rw [hs1] at hst1
  have hR := Rows2.new (w := (w3.alloc (.cells #[.string ⟨#[97]⟩, .string ⟨#[98]⟩, .string ⟨#[97]⟩] 9)).alloc (.cells #[.string ⟨#[99]⟩, .string ⟨#[97]⟩] 9)) (rows := [(some ⟨w3.heap.size, 0, none⟩, 3, 3), (some ⟨w3.heap.size + 1, 0, none⟩, 2, 2)]) (sss := [[[97], [98], [97]], [[99], [97]]]) 22 2 #[.slice (some ⟨w3.heap.size, 0, none⟩) 3 3, .slice (some ⟨w3.heap.size + 1, 0, none⟩) 2 2] rfl rfl rfl (fun k r ss h1 h2 => by
    match k, h1, h2 with
    | 0, h1, h2 =>
      simp at h1 h2; subst h1; subst h2
      exact Reads.more (Reads.keep hst0 fun p hp => World.cell?_alloc_lt _ _ p hp) (by simp)
    | 1, h1, h2 =>
      simp at h1 h2; subst h1; subst h2
      exact hst1)
  rw [hs2] at hR
  have hB4 : Below w.heap.size w (((w3.alloc (.cells #[.string ⟨#[97]⟩, .string ⟨#[98]⟩, .string ⟨#[97]⟩] 9)).alloc (.cells #[.string ⟨#[99]⟩, .string ⟨#[97]⟩] 9)).alloc (.cells #[.slice (some ⟨w3.heap.size, 0, none⟩) 3 3, .slice (some ⟨w3.heap.size + 1, 0, none⟩) 2 2] 22)) :=
    ((hB03.alloc hB03.size _).alloc (by have := hB03.size; simp; omega) _).alloc (by have := hB03.size; simp; omega) _
  have hT4 : Tab (((w3.alloc (.cells #[.string ⟨#[97]⟩, .string ⟨#[98]⟩, .string ⟨#[97]⟩] 9)).alloc (.cells #[.string ⟨#[99]⟩, .string ⟨#[97]⟩] 9)).alloc (.cells #[.slice (some ⟨w3.heap.size, 0, none⟩) 3 3, .slice (some ⟨w3.heap.size + 1, 0, none⟩) 2 2] 22)) w.heap.size F3 [[97], [98]] :=
    hT3.below ((((Below.refl _ _).alloc (Nat.le_refl _) _).alloc (by simp) _).alloc (by simp; omega) _) (Nat.le_refl _)
  have hRh := Lib.hid hR
  have hbs := hB03.size
  have hB4h := Lib.hid hB4
  have hT4h := Lib.hid hT4
  clear hs1 hs2 hst0 hst1 hR hB4 hT4 hT3 hB03
  go_wp2_with fail
  refine (All_any _ _ _ _ _ _ hRh.out (by decide) (by decide) (by decide)).mono ?_
  rintro e w4 ⟨A, n, c, rows, rfl, hnc, hcm, hrn, hB5⟩
  have hx : numsL (withAll [] [[[97], [98], [97]], [[99], [97]]].flatten) [[[97], [98], [97]], [[99], [97]]] = [[0, 1, 0], [2, 0]] := by decide
  have hn2 : n = 2 := by have := hrn.len; rw [hx] at this; simpa using this.symm
  subst hn2
  obtain ⟨b, o, A', n', c', xs, rfl, hb, hxs, hc1, hnm⟩ := hrn.at_ (k := 1) (by omega)
  rw [hx] at hxs
  injection hxs with hxs
  subst hxs
  obtain rfl : 2 = n' := hnm.len
  obtain ⟨b2, o2, x0, rfl, hb2, hx0, hd0⟩ := hnm.at_ (k := 0) (by omega)
  obtain ⟨b3, o3, x1, e1, hb3, hx1, hd1⟩ := hnm.at_ (k := 1) (by omega)
  injection e1 with e1; injection e1 with e1 e2; subst e1; subst e2
  injection hx0 with hx0; subst hx0
  injection hx1 with hx1; subst hx1
  have hT5 := hT4h.out.below hB5 (Nat.le_refl _)
  have hL := Lib.hid (Len_tab F3 w.heap.size [[97], [98]] w4 hT5)
  have hX0 := Text_tab F3 w.heap.size [[97], [98]] 1 w4 hT5
  rw [show str (textAt [[97], [98]] 1) = ⟨#[98]⟩ from rfl] at hX0
  have hX := Lib.hid hX0
  clear hX0
  have hB5h := Lib.hid hB5
  clear hx hnm hrn hT5 hB5
  rw [Nat.add_zero] at hd0
  go_wp2_with (first
    | (go_at_call 13; refine hL.out.mono ?_; rintro e w' ⟨rfl, rfl⟩)
    | (go_at_call 14; refine hX.out.mono ?_; rintro e w' ⟨rfl, rfl⟩))
  go_ret
  exact ⟨rfl, hB4h.out.trans (hB5h.out.mono (by have := hB4h.out.size; omega))⟩
end Go.Proofs.Ytaniikdnlebknaa
