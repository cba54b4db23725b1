/- Proved here: texts joined: LcsPair. -/
import Derived.Test.YtoopdgohdeddoaaGreatDoorBs32
import Derived.Test.YtoopdgohdeddoaaGreatDoorBs33
import Derived.Test.YtoopdgohdeddoaaGreatDoorBs34
/- Proved here: the contracts of package lcs: New, Match (and reckon, which sync.Once calls once). -/
namespace Go.Proofs.YtoopdgohdeddoaaGreatDoor
open Go.RowKit
set_option linter.unusedVariables false
set_option maxRecDepth 100000

theorem cells_set {w : World} {T j : Nat} {C : Array Value} {t : TypeId} (x : Value) (h : w.heap[T]? = some (.cells C t (0, 0))) : (w.setCell ⟨T, j, none⟩ x).heap[T]? = some (.cells (C.setIfInBounds j x) t (0, 0)) := by
  simp [World.setCell, Array.getElem?_modify, h]

/-- Block T is a pair that was reckoned (o0, o1, o2: its Once). -/
def DoneAt (w : World) (T : Nat) (o0 o1 o2 : Value) (a b : List Int) : Prop :=
  ∃ M c, w.heap[T]? = some (.cells #[.slice none 0 0, .slice none 0 0, o0, o1, o2, .int .i64 (lcsL a b), .slice M a.length c] 114 (0, 0)) ∧ Nums w w.heap.size M a.length (mt a b 0) ∧ ∀ q o, M = some ⟨q, o, none⟩ → q ≠ T
/-- Block T is a pair that wasn't reckoned yet. -/
def NewAt (w : World) (T : Nat) (o0 o1 o2 : Value) (a b : List Int) : Prop :=
  ∃ A c A' c' l m, w.heap[T]? = some (.cells #[.slice A a.length c, .slice A' b.length c', o0, o1, o2, l, m] 114 (0, 0)) ∧ Nums w w.heap.size A a.length a ∧ Nums w w.heap.size A' b.length b ∧ (∀ q o, A = some ⟨q, o, none⟩ → q ≠ T) ∧ ∀ q o, A' = some ⟨q, o, none⟩ → q ≠ T

section
variable {w w' : World} {T : Nat} {o0 o1 o2 : Value} {a b : List Int}
theorem nums_apart {A : Option Addr} {n : Nat} {xs : List Int} (h : Nums w w.heap.size A n xs) (hs : w.heap.size ≤ w'.heap.size) (hk : ∀ k, k < w.heap.size → k ≠ T → w'.heap[k]? = w.heap[k]?) (hne : ∀ q o, A = some ⟨q, o, none⟩ → q ≠ T) : Nums w' w'.heap.size A n xs := by
  refine ⟨h.1, fun hn => ?_⟩
  obtain ⟨q, o, rfl, hlt, hc⟩ := h.2 hn
  exact ⟨q, o, rfl, by omega, fun j u hu => (World.cell?_of_block (w := w) (hk q hlt (hne q o rfl))).trans (hc j u hu)⟩
theorem DoneAt.lt (h : DoneAt w T o0 o1 o2 a b) : T < w.heap.size := by obtain ⟨_, _, h, _⟩ := h; exact (Array.getElem?_eq_some_iff.1 h).1
theorem NewAt.lt (h : NewAt w T o0 o1 o2 a b) : T < w.heap.size := by obtain ⟨_, _, _, _, _, _, h, _⟩ := h; exact (Array.getElem?_eq_some_iff.1 h).1
theorem DoneAt.below (h : DoneAt w T o0 o1 o2 a b) (hb : Below w.heap.size w w') : DoneAt w' T o0 o1 o2 a b := by
  have hlt := h.lt
  obtain ⟨M, c, h1, h2, h3⟩ := h
  exact ⟨M, c, (hb.block T hlt).trans h1, (h2.below hb).more hb.size, h3⟩
theorem NewAt.below (h : NewAt w T o0 o1 o2 a b) (hb : Below w.heap.size w w') : NewAt w' T o0 o1 o2 a b := by
  have hlt := h.lt
  obtain ⟨A, c, A', c', l, m, h1, h2, h3, h4, h5⟩ := h
  exact ⟨A, c, A', c', l, m, (hb.block T hlt).trans h1, (h2.below hb).more hb.size, (h3.below hb).more hb.size, h4, h5⟩
end

/-- What reckon leaves. -/
def RecOut (w w' : World) (T : Nat) (o0 o1 o2 : Value) (a b : List Int) : Prop := DoneAt w' T o0 o1 o2 a b ∧ But (fun k => k = T) w w'

theorem rec_fin {w w1 w2 : World} {T : Nat} {o0 o1 o2 l m sA sB : Value} {a b : List Int} {C : Array Value} {M : Option Addr} {c : Nat} (hT : w.heap[T]? = some (.cells #[sA, sB, o0, o1, o2, l, m] 114 (0, 0)))
    (h1 : Below w.heap.size w w1) (h2 : Below w1.heap.size w1 w2) (hM : Nums w2 w2.heap.size M a.length (mt a b 0)) (hne : ∀ q o, M = some ⟨q, o, none⟩ → q ≠ T) :
    RecOut w ((((w2.setCell ⟨T, 5, none⟩ (.int .i64 (lcsL a b))).setCell ⟨T, 6, none⟩ (.slice M a.length c)).setCell ⟨T, 0, none⟩ (.slice none 0 0)).setCell ⟨T, 1, none⟩ (.slice none 0 0)) T o0 o1 o2 a b := by
  have hlt : T < w.heap.size := (Array.getElem?_eq_some_iff.1 hT).1
  have hT2 : w2.heap[T]? = some (.cells #[sA, sB, o0, o1, o2, l, m] 114 (0, 0)) := (h2.block T (Nat.lt_of_lt_of_le hlt h1.size)).trans ((h1.block T hlt).trans hT)
  have hb2 : But (fun k => k = T) w w2 := .of_below (h1.trans (h2.mono h1.size)) fun k hk _ => hk
  have s1 := But.setCell (F := fun k => k = T) w2 (p := ⟨T, 5, none⟩) rfl (.int .i64 (lcsL a b))
  have s2 := But.setCell (F := fun k => k = T) (w2.setCell ⟨T, 5, none⟩ (.int .i64 (lcsL a b))) (p := ⟨T, 6, none⟩) rfl (.slice M a.length c)
  have s3 := But.setCell (F := fun k => k = T) ((w2.setCell ⟨T, 5, none⟩ (.int .i64 (lcsL a b))).setCell ⟨T, 6, none⟩ (.slice M a.length c)) (p := ⟨T, 0, none⟩) rfl (.slice none 0 0)
  have s4 := But.setCell (F := fun k => k = T) (((w2.setCell ⟨T, 5, none⟩ (.int .i64 (lcsL a b))).setCell ⟨T, 6, none⟩ (.slice M a.length c)).setCell ⟨T, 0, none⟩ (.slice none 0 0)) (p := ⟨T, 1, none⟩) rfl (.slice none 0 0)
  have s := ((s1.trans s2 fun k e => .inl e).trans s3 fun k e => .inl e).trans s4 fun k e => .inl e
  refine ⟨⟨M, c, ?_, ?_, hne⟩, hb2.trans s fun k e => .inl e⟩
  · rw [cells_set _ (cells_set _ (cells_set _ (cells_set _ hT2)))]; rfl
  · exact nums_apart hM s.size (fun k hk hn => s.block k hk hn) hne

set_option maxRecDepth 100000 in
set_option maxHeartbeats 2000000 in
theorem reckon_any (T : Nat) (o0 o1 o2 : Value) (a b : List Int) (w : World) (hla : a.length ≤ 2000) (hlb : b.length ≤ 2000) (h : NewAt w T o0 o1 o2 a b) :
    Calls Tryz.prog 63 #[.pointer (some ⟨T, 0, none⟩)] w fun e w' => e = .returned (.tuple #[]) ∧ RecOut w w' T o0 o1 o2 a b := by
  have hlt := h.lt
  obtain ⟨A, c, A', c', l, m, hT, hA, hA', hne, hne'⟩ := h
  have c0 : w.cell? ⟨T, 0, none⟩ = some (.slice A a.length c) := by rw [cells_of hT]; rfl
  have c1 : w.cell? ⟨T, 1, none⟩ = some (.slice A' b.length c') := by rw [cells_of hT]; rfl
  have hcall := Lib.hid (meas_any A A' a.length b.length c c' w.heap.size w.heap.size a b w.drew hla hlb hA.drew hA'.drew (Nat.le_refl _) (Nat.le_refl _))
  have hfin := Lib.hid (fun w1 w2 M cM => rec_fin (w := w) (w1 := w1) (w2 := w2) (M := M) (c := cM) (a := a) (b := b) (C := #[]) hT)
  have hTh := Lib.hid hT
  go_enter Tryz.func63, Tryz.ntmps63
  go_upto_region 0 with fail
  go_cut [2, 3] (fun s2 s3 wx => ∃ S, s2 = .int .i64 (lcsL a b) ∧ s3 = .slice (some ⟨S, 0, none⟩) a.length a.length ∧ Skips wx (some ⟨S, 0, none⟩) a.length b.length a b ∧ Below w.heap.size w wx)
  case first =>
    go_region_with (go_at_call 98; refine hcall.out.mono ?_; rintro e w1 ⟨S, rfl, hS, hb⟩)
    all_goals (go_wp2_with fail; go_meet; exact ⟨S, rfl, rfl, hS, ⟨hb.os, hb.tape, hb.output, hb.size, hb.block⟩⟩)
  case rest =>
  obtain ⟨S, rfl, rfl, hS, hb⟩ := hcut
  have hT1 : wc.heap[T]? = some (.cells #[.slice A a.length c, .slice A' b.length c', o0, o1, o2, l, m] 114 (0, 0)) := (hb.block T hlt).trans hTh.out
  have hlt1 : T < wc.heap.size := Nat.lt_of_lt_of_le hlt hb.size
  have hw := walk_any A A' (some ⟨S, 0, none⟩) a.length b.length c c' a.length wc.heap.size wc.heap.size a b wc.drew hla hlb ((hA.below hb).more hb.size).drew ((hA'.below hb).more hb.size).drew (Nat.le_refl _) (Nat.le_refl _) (hS.below (Below.refl _ _).drew)
  have hw' : Calls Tryz.prog 99 #[.slice A a.length c, .slice A' b.length c', .slice (some ⟨S, 0, none⟩) a.length a.length] wc.drew fun e w2 =>
      e = .returned (.slice (some ⟨wc.heap.size, 0, none⟩) a.length a.length) ∧ (w2.cell? ⟨T, 0, none⟩ = some (.slice A a.length c) ∧ w2.cell? ⟨T, 1, none⟩ = some (.slice A' b.length c') ∧ w2.cell? ⟨T, 5, none⟩ = some l ∧ w2.cell? ⟨T, 6, none⟩ = some m ∧ ∀ k, w2.frozen? ⟨T, k, none⟩ = false) ∧
        Hid (RecOut w ((((w2.setCell ⟨T, 5, none⟩ (.int .i64 (lcsL a b))).setCell ⟨T, 6, none⟩ (.slice (some ⟨wc.heap.size, 0, none⟩) a.length a.length)).setCell ⟨T, 0, none⟩ (.slice none 0 0)).setCell ⟨T, 1, none⟩ (.slice none 0 0)) T o0 o1 o2 a b) :=
    hw.mono fun e w2 h => by
      obtain ⟨h1, h2, h3⟩ := h
      have hbw : Below wc.heap.size wc w2 := ⟨h3.os, h3.tape, h3.output, h3.size, h3.block⟩
      have hT2 := (hbw.block T hlt1).trans hT1
      refine ⟨h1, ⟨by rw [cells_of hT2]; rfl, by rw [cells_of hT2]; rfl, by rw [cells_of hT2]; rfl, by rw [cells_of hT2]; rfl, fun k => unfrozen_of hT2 k⟩, Lib.hid (hfin.out wc w2 _ _ hb hbw h2 fun q o e => ?_)⟩
      injection e with e
      injection e with e
      have e' : wc.heap.size = q := e
      omega
  have hw2 := Lib.hid hw'
  have d0 : wc.cell? ⟨T, 0, none⟩ = some (.slice A a.length c) := by rw [cells_of hT1]; rfl
  have d1 : wc.cell? ⟨T, 1, none⟩ = some (.slice A' b.length c') := by rw [cells_of hT1]; rfl
  clear hw hw' c0 c1 hT hfin hcall hTh hT1 hS hb hA hA'
  go_upto_region 1 with fail
  go_region_with (go_at_call 99; refine hw2.out.mono ?_; rintro e w2 ⟨rfl, ⟨g0, g1, g5, g6, gf⟩, hfin⟩)
  all_goals (go_wp2; go_end0)
  all_goals exact ⟨rfl, hfin.out⟩

theorem reckon_enter (x : Value) (w : World) : (callFunc 63 #[x]).run Tryz.prog w = .ok (.enter 63 #[x]) w := by
  have h1 : Tryz.f63.name ≠ "runtime.NumGoroutine" := by simpa using (show (Tryz.f63.name == "runtime.NumGoroutine") = false by kernel_rfl)
  simp [callFunc, Tryz.func63, h1, show Tryz.f63.body = some _ from rfl]

theorem DoneAt.once {w : World} {T : Nat} {o0 o1 o2 : Value} {a b : List Int} (x y : Value) (h : DoneAt w T o0 o1 o2 a b) : DoneAt ((w.drew.setCell ⟨T, 2, none⟩ x).setCell ⟨T, 3, none⟩ y) T x y o2 a b := by
  obtain ⟨M, c, h1, h2, h3⟩ := h
  have h1' : w.drew.heap[T]? = _ := h1
  have s1 := But.setCell (F := fun k => k = T) w.drew (p := ⟨T, 2, none⟩) rfl x
  have s2 := But.setCell (F := fun k => k = T) (w.drew.setCell ⟨T, 2, none⟩ x) (p := ⟨T, 3, none⟩) rfl y
  have s := s1.trans s2 fun k e => .inl e
  exact ⟨M, c, by rw [cells_set _ (cells_set _ h1')]; rfl, nums_apart (w := w) h2 s.size (fun k hk hn => s.block k hk hn) h3, h3⟩

/-- Block T is the pair of a and b: not reckoned yet, or reckoned. -/
def PairIs (w : World) (T : Nat) (F : Nat → Prop) (a b : List Int) : Prop :=
  (∀ k, F k ↔ k = T) ∧ a.length ≤ 2000 ∧ b.length ≤ 2000 ∧ (NewAt w T (.int .u32 0) (.int .i32 0) (.int .u32 0) a b ∨ DoneAt w T (.int .u32 1) (.int .i32 0) (.int .u32 0) a b)

/-- Behind the Once: the pair is reckoned. -/
def Reckoned (w w' : World) (e : Ending) (T : Nat) (a b : List Int) : Prop := e = .returned (.tuple #[]) ∧ DoneAt w' T (.int .u32 1) (.int .i32 0) (.int .u32 0) a b ∧ But (fun k => k = T) w w'

theorem pair_do (T : Nat) (F : Nat → Prop) (a b : List Int) (w : World) (h : PairIs w T F a b) :
    Calls Tryz.prog 62 #[.pointer (some ⟨T, 2, none⟩), .func (.func 63) #[.pointer (some ⟨T, 0, none⟩)] #[]] w fun e w' => Reckoned w w' e T a b := by
  obtain ⟨-, hla, hlb, h | h⟩ := h
  · have hlt := h.lt
    obtain ⟨A, c, A', c', l, m, hT, hA, hA', hne, hne'⟩ := h
    have s1 := But.setCell (F := fun k => k = T) w (p := ⟨T, 3, none⟩) rfl (.int .i32 1)
    have hN : NewAt (w.setCell ⟨T, 3, none⟩ (.int .i32 1)) T (.int .u32 0) (.int .i32 1) (.int .u32 0) a b :=
      ⟨A, c, A', c', l, m, by rw [cells_set _ hT]; rfl, nums_apart hA s1.size (fun k hk hn => s1.block k hk hn) hne, nums_apart hA' s1.size (fun k hk hn => s1.block k hk hn) hne', hne, hne'⟩
    refine (do_first T 2 63 (.pointer (some ⟨T, 0, none⟩)) w (fun w' => RecOut (w.setCell ⟨T, 3, none⟩ (.int .i32 1)) w' T (.int .u32 0) (.int .i32 1) (.int .u32 0) a b) (by rw [cells_of hT]; rfl) (by rw [cells_of hT]; rfl) (unfrozen_of hT _) (unfrozen_of hT _) (reckon_enter _) (reckon_any T _ _ _ a b _ hla hlb hN) ?_).mono ?_
    · rintro w' ⟨⟨M, cM, h1, -, -⟩, -⟩
      exact ⟨by rw [cells_of h1]; rfl, by rw [cells_of h1]; rfl, unfrozen_of h1 _, unfrozen_of h1 _⟩
    · rintro e w' ⟨rfl, w2, ⟨hD, hb⟩, rfl⟩
      have t1 := But.setCell (F := fun k => k = T) w2.drew (p := ⟨T, 2, none⟩) rfl (.int .u32 1)
      have t2 := But.setCell (F := fun k => k = T) (w2.drew.setCell ⟨T, 2, none⟩ (.int .u32 1)) (p := ⟨T, 3, none⟩) rfl (.int .i32 0)
      have hb' : But (fun k => k = T) (w.setCell ⟨T, 3, none⟩ (.int .i32 1)) w2.drew := ⟨hb.os, hb.tape, hb.output, hb.size, hb.block⟩
      exact ⟨rfl, hD.once _ _, ((s1.trans hb' fun k e => .inl e).trans t1 fun k e => .inl e).trans t2 fun k e => .inl e⟩
  · have h' := h
    obtain ⟨M, c, h1, -, -⟩ := h
    refine (do_done ⟨T, 2, none⟩ 1 (by decide) _ w (by rw [cells_of h1]; rfl)).mono ?_
    rintro e w' ⟨rfl, rfl⟩
    exact ⟨rfl, h', .refl _ _⟩

set_option maxHeartbeats 400000 in
theorem match_any' (T : Nat) (F : Nat → Prop) (a b : List Int) (w : World) (h : PairIs w T F a b) :
    Calls Tryz.prog 38 #[.pointer (some ⟨T, 0, none⟩)] w fun e w' => MatchOut PairIs w w' e T F a b := by
  have hd := Lib.hid (pair_do T F a b w h)
  have hh := Lib.hid h
  have hla := h.2.1
  clear h
  go_enter Tryz.func38, Tryz.ntmps38
  go_wp2_with (first
    | (go_at_call 62; refine hd.out.mono ?_; rintro e w1 ⟨rfl, hD, hb⟩; have hD' := Lib.hid hD; have hlt := hD.lt; obtain ⟨M, cM, hT, hN, hne⟩ := hD; have c6 : w1.cell? ⟨T, 6, none⟩ = some (.slice M a.length cM) := (by rw [cells_of hT]; rfl); have hcl := Lib.hid (clone_any M a.length cM w1.heap.size (mt a b 0) w1 hla (Nat.le_refl _) hN); clear hT hN hne)
    | (go_at_call 64; refine hcl.out.mono ?_; rintro e w2 ⟨v, rfl, hown, hb2⟩; obtain ⟨Ao, co, rfl, k1, k2, k3⟩ := nums_of_own hown))
  go_ret
  obtain ⟨h1, h2, h3, -⟩ := hh.out
  refine ⟨Ao, a.length, co, F, rfl, rfl, k1, k2, k3, fun q o e hq => ?_, ⟨h1, h2, h3, .inr (hD'.out.below hb2)⟩, (hb.trans (But.of_below hb2 fun k hk _ => hk) (F' := fun k => k = T) fun k e => .inl e).more fun k e => (h1 k).2 e, fun k hk => .inl hk⟩
  subst e
  have := (h1 q).1 hq
  have := (hown.lt q rfl).1
  omega

/-- Nothing. -/
def NoNums (w w' : World) (e : Ending) : Prop := ∃ A c, e = .returned (.slice A 0 c) ∧ w = w'
set_option maxHeartbeats 400000 in
theorem match_nil' (w : World) : Calls Tryz.prog 38 #[.pointer none] w fun e w' => NoNums w w' e := by
  go_enter Tryz.func38, Tryz.ntmps38
  go_wp2
  go_ret
  exact ⟨none, 0, rfl, rfl⟩

set_option maxHeartbeats 400000 in
theorem new_long' (A A' : Option Addr) (n n' c c' : Nat) (w : World) (hm : n ≤ maxLen) (hm' : n' ≤ maxLen) (h : 2000 < n ∨ 2000 < n') :
    Calls Tryz.prog 59 #[.slice A n c, .slice A' n' c'] w fun e w' => e = .returned (.tuple #[.pointer none, .int .i64 4]) ∧ Below w.heap.size w w' := by
  by_cases h1 : 2000 < n
  · have h2 : (2000 : Int) < (n : Int) := by omega
    clear h
    go_enter Tryz.func59, Tryz.ntmps59
    go_wp2
    go_ret2
    exact ⟨rfl, Below.refl _ _⟩
  · have h2 : decide ((2000 : Int) < (n : Int)) = false := by simp; omega
    have h3 : (2000 : Int) < (n' : Int) := by omega
    clear h
    go_enter Tryz.func59, Tryz.ntmps59
    go_wp2
    go_ret2
    exact ⟨rfl, Below.refl _ _⟩

theorem new_fin {w w1 w2 : World} {A A' : Option Addr} {c c' : Nat} {a b : List Int} (hla : a.length ≤ 2000) (hlb : b.length ≤ 2000) (hA : Nums w1 w1.heap.size A a.length a) (hA' : Nums w2 w2.heap.size A' b.length b) (h1 : Below w.heap.size w w1) (h2 : Below w1.heap.size w1 w2) (hq : ∀ q o, A = some ⟨q, o, none⟩ → q < w2.heap.size) (hq' : ∀ q o, A' = some ⟨q, o, none⟩ → q < w2.heap.size) :
    NewOut PairIs w (w2.alloc (.cells #[.slice A a.length c, .slice A' b.length c', .int .u32 0, .int .i32 0, .int .u32 0, .int .i64 0, .slice none 0 0] 114)) (.returned (.tuple #[.pointer (some ⟨w2.heap.size, 0, none⟩), .int .i64 0])) a b := by
  have hs : w.heap.size ≤ w2.heap.size := Nat.le_trans h1.size h2.size
  have hb2 : Below w.heap.size w w2 := h1.trans (h2.mono h1.size)
  have hA2 := (hA.below h2).more h2.size
  have hal : Below w2.heap.size w2 (w2.alloc (.cells #[.slice A a.length c, .slice A' b.length c', .int .u32 0, .int .i32 0, .int .u32 0, .int .i64 0, .slice none 0 0] 114)) := (Below.refl _ _).alloc (Nat.le_refl _) _
  refine ⟨w2.heap.size, fun k => k = w2.heap.size, rfl, ⟨fun k => Iff.rfl, hla, hlb, .inl ⟨A, c, A', c', _, _, Go.Deep.blk_alloc_new _ _, (hA2.below hal).more hal.size, (hA'.below hal).more hal.size, ?_, ?_⟩⟩, fun k e => by omega, hb2.alloc hs _⟩
  · intro q o e h
    have := hq q o e
    omega
  · intro q o e h
    have := hq' q o e
    omega

theorem own_at {w : World} {base n : Nat} {e : TypeId} {A : Option Addr} {c : Nat} {xs : List Value} (h : w.ownsRow base e 1 (.slice A n c) n xs) : ∀ q o, A = some ⟨q, o, none⟩ → q < w.heap.size := by
  rintro q o rfl
  exact (h.lt q rfl).2

set_option maxHeartbeats 800000 in
theorem new_ok' (A A' : Option Addr) (n n' c c' : Nat) (a b : List Int) (w : World) (hn : n ≤ 2000) (hn' : n' ≤ 2000) (hA : Nums w w.heap.size A n a) (hA' : Nums w w.heap.size A' n' b) :
    Calls Tryz.prog 59 #[.slice A n c, .slice A' n' c'] w fun e w' => NewOut PairIs w w' e a b := by
  have hl := hA.len
  have hl' := hA'.len
  subst hl
  subst hl'
  have hc1 := Lib.hid (clone_any A a.length c w.heap.size a w hn (Nat.le_refl _) hA)
  have hA'' := Lib.hid hA'
  have h1 : decide ((2000 : Int) < (a.length : Int)) = false := by simp; omega
  have h2 : ¬ ((2000 : Int) < (b.length : Int)) := by omega
  have tok1 := trivial
  clear hA hA'
  go_enter Tryz.func59, Tryz.ntmps59
  go_wp2_with (go_at_call 64; first
    | (have _t := tok1; refine hc1.out.mono ?_; rintro e w1 ⟨v1, rfl, hown1, hb1⟩; obtain ⟨A1, c1, rfl, -, -, k1⟩ := nums_of_own hown1; have hc2 := Lib.hid (clone_any A' b.length c' w.heap.size b w1 hn' hb1.size (hA''.out.below hb1)); clear tok1)
    | (refine hc2.out.mono ?_; rintro e w2 ⟨v2, rfl, hown2, hb2⟩; obtain ⟨A2, c2, rfl, -, -, k2⟩ := nums_of_own hown2))
  go_ret2
  exact new_fin hn hn' k1 k2 hb1 hb2 (fun q o e => Nat.lt_of_lt_of_le (own_at hown1 q o e) hb2.size) (own_at hown2)

theorem pair_kept {w w' : World} {T : Nat} {F : Nat → Prop} {a b : List Int} (h : PairIs w T F a b) (hb : Below w.heap.size w w') : PairIs w' T F a b := by
  obtain ⟨h1, h2, h3, h | h⟩ := h
  · exact ⟨h1, h2, h3, .inl (h.below hb)⟩
  · exact ⟨h1, h2, h3, .inr (h.below hb)⟩

end Go.Proofs.YtoopdgohdeddoaaGreatDoor
