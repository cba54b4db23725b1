/- Proved here: texts joined: UnSt, UnOp. -/
import Derived.Test.YtcpopnhnihbofaaDoorBd15
import Derived.Test.YtcpopnhnihbofaaDoorBd17
import Derived.RegionTactic
import Derived.Deep.RegionHeld3
import Derived.RangeFuncBox
/- Proved here: contracts of the document's own answers of layer 13: bad, mark, fits. -/
namespace Go.Proofs.YtcpopnhnihbofaaDoor
open Go.RowKit
set_option linter.unusedVariables false
set_option maxRecDepth 100000

/-- A state, as its cells. -/
def stC (r : Slc) (long at_ style wrong : Int) : Array Value := #[.slice r.1 r.2.1 r.2.2, .int .i64 long, .int .i64 at_, .int .i64 style, .int .i64 wrong]
/-- A state lies in a block. -/
def StAt (W : World) (L : Nat) (r : Slc) (long at_ style wrong : Int) : Prop := W.heap[L]? = some (.cells #[.slice r.1 r.2.1 r.2.2, .int .i64 long, .int .i64 at_, .int .i64 style, .int .i64 wrong] 47 (0, 0))
theorem StAt.lt {W : World} {L : Nat} {r : Slc} {long at_ style wrong : Int} (h : StAt W L r long at_ style wrong) : L < W.heap.size := (Array.getElem?_eq_some_iff.1 h).1
theorem StAt.cells {W : World} {L : Nat} {r : Slc} {long at_ style wrong : Int} (h : StAt W L r long at_ style wrong) :
    W.cell? ⟨L, 0, none⟩ = some (.slice r.1 r.2.1 r.2.2) ∧ W.cell? ⟨L, 1, none⟩ = some (.int .i64 long) ∧ W.cell? ⟨L, 2, none⟩ = some (.int .i64 at_) ∧ W.cell? ⟨L, 3, none⟩ = some (.int .i64 style) ∧ W.cell? ⟨L, 4, none⟩ = some (.int .i64 wrong) ∧
    W.frozen? ⟨L, 0, none⟩ = false ∧ W.frozen? ⟨L, 1, none⟩ = false ∧ W.frozen? ⟨L, 2, none⟩ = false ∧ W.frozen? ⟨L, 3, none⟩ = false ∧ W.frozen? ⟨L, 4, none⟩ = false :=
  ⟨by rw [cells_of h]; rfl, by rw [cells_of h]; rfl, by rw [cells_of h]; rfl, by rw [cells_of h]; rfl, by rw [cells_of h]; rfl, unfrozen_of h 0, unfrozen_of h 1, unfrozen_of h 2, unfrozen_of h 3, unfrozen_of h 4⟩
theorem StAt.up {W W' : World} {L : Nat} {r : Slc} {long at_ style wrong : Int} (h : StAt W L r long at_ style wrong) (hb : Below W.heap.size W W') : StAt W' L r long at_ style wrong := (hb.block L h.lt).trans h
theorem StAt.new (w : World) (r : Slc) (long at_ style wrong : Int) : StAt (w.alloc (.cells #[.slice r.1 r.2.1 r.2.2, .int .i64 long, .int .i64 at_, .int .i64 style, .int .i64 wrong] 47)) w.heap.size r long at_ style wrong := Go.Deep.blk_alloc_new w _
theorem StAt.setAt {W : World} {L : Nat} {r : Slc} {long at_ style wrong : Int} (h : StAt W L r long at_ style wrong) (v : Int) : StAt (W.setCell ⟨L, 2, none⟩ (.int .i64 v)) L r long v style wrong := by
  unfold StAt at h ⊢
  simp [World.setCell, Array.getElem?_modify, h]
theorem StAt.setStyle {W : World} {L : Nat} {r : Slc} {long at_ style wrong : Int} (h : StAt W L r long at_ style wrong) (v : Int) : StAt (W.setCell ⟨L, 3, none⟩ (.int .i64 v)) L r long at_ v wrong := by
  unfold StAt at h ⊢
  simp [World.setCell, Array.getElem?_modify, h]
theorem StAt.setWrong {W : World} {L : Nat} {r : Slc} {long at_ style wrong : Int} (h : StAt W L r long at_ style wrong) (v : Int) : StAt (W.setCell ⟨L, 4, none⟩ (.int .i64 v)) L r long at_ style v := by
  unfold StAt at h ⊢
  simp [World.setCell, Array.getElem?_modify, h]
theorem But.one (W : World) (L k : Nat) (v : Value) : But (fun j => j = L) W (W.setCell ⟨L, k, none⟩ v) := But.setCell (F := fun j => j = L) W (p := ⟨L, k, none⟩) rfl v

theorem StAt.but {F : Nat → Prop} {W W' : World} {L : Nat} {r : Slc} {long at_ style wrong : Int} (h : StAt W L r long at_ style wrong) (hb : But F W W') (hF : ¬ F L) : StAt W' L r long at_ style wrong := (hb.block L h.lt hF).trans h

set_option maxHeartbeats 1000000 in
theorem bad_any (r : Slc) (long style wrong : Int) (a : Nat) (w : World) (ha : a ≤ 1000000000) :
    Calls Tryd.prog 22 #[.agg #[.slice r.1 r.2.1 r.2.2, .int .i64 long, .int .i64 (a : Int), .int .i64 style, .int .i64 wrong]] w fun e w' => e = .returned (.agg #[.slice r.1 r.2.1 r.2.2, .int .i64 long, .int .i64 (a : Int), .int .i64 style, .int .i64 ((a : Int) + 1)]) ∧ Below w.heap.size w w' := by
  have hwr : IntKind.i64.wrap ((a : Int) + 1) = (a : Int) + 1 := IntWalk.i64_in _ (by omega)
  go_enter Tryd.func22, Tryd.ntmps22
  go_wp2
  refine bodyPost_ret (v := .agg #[.slice r.1 r.2.1 r.2.2, .int .i64 long, .int .i64 (a : Int), .int .i64 style, .int .i64 ((a : Int) + 1)]) (by simp [results, Tryd.results22, go_sem]) rfl ?_
  exact ⟨rfl, below_alloc (below_alloc (Below.refl _ _) _) _⟩

set_option maxHeartbeats 1000000 in
theorem mark13_any (r : Slc) (long : Nat) (a style wrong : Int) (t : Tx) (w : World) (ht : t.length ≤ maxLen) :
    Calls Tryd.prog 39 #[.agg #[.slice r.1 r.2.1 r.2.2, .int .i64 (long : Int), .int .i64 a, .int .i64 style, .int .i64 wrong], .string (str t)] w fun e w' => e = .returned (.bool (decide (long ≤ runN t))) ∧ Below w.heap.size w w' := by
  have hR := Lib.hid (fun W => rRun_any t W ht)
  obtain ⟨k, hk⟩ : ∃ k, runN t = k := ⟨_, rfl⟩
  rw [hk] at hR ⊢
  go_enter Tryd.func39, Tryd.ntmps39
  go_wp2
  go_quiet ((go_at_call 28; exact (hR.out _).mono (fun _ _ h => ⟨h.1, by obtain ⟨q, hq⟩ := h.2; exact ⟨_, hq.trans (World.drewN_drewN _ _ _)⟩⟩)))
  go_wp2
  go_ret
  exact ⟨rfl, below_drewN (below_alloc (Below.refl _ _) _) _⟩

theorem str_same (a b : Tx) : ((str a).toList == (str b).toList) = decide (a = b) := by
  rw [ByteArray.toList_eq, ByteArray.toList_eq, str_data, str_data, Bool.eq_iff_iff, beq_iff_eq, decide_eq_true_eq]

/-- Which texts there are. -/
structure Txl (W : World) (r : Slc) (l : Txs) : Prop where
  nc : r.2.1 ≤ r.2.2
  cm : r.2.2 ≤ maxLen
  st : Strs W W.heap.size r.1 r.2.1 l
  few : l.length ≤ 1000000000
  txt : ∀ t ∈ l, t.length ≤ 1000000000
theorem Txl.up {W W' : World} {r : Slc} {l : Txs} (h : Txl W r l) (hb : Below W.heap.size W W') : Txl W' r l := ⟨h.nc, h.cm, h.st.up hb, h.few, h.txt⟩

set_option maxHeartbeats 2000000 in
theorem fits_any (A : Option Addr) (n c : Nat) (l : Txs) (long a : Nat) (style wrong : Int) (sg : UInt8) (label t : Tx) (w : World) (hlong : long ≤ 4096) (hlab : label.length ≤ 1000) (hT : Txl w (A, n, c) l) (ha : l[a]? = some t) :
    Calls Tryd.prog 21 #[.agg #[.slice A n c, .int .i64 (long : Int), .int .i64 (a : Int), .int .i64 style, .int .i64 wrong], .string (str [sg]), .string (str label)] w fun e w' => e = .returned (.int .i64 (fitI (fitM long t sg label))) ∧ Below w.heap.size w w' := by
  have hln := hT.st.len
  have hlt : a < n := by have := (List.getElem?_eq_some_iff.1 ha).1; dsimp only at hln; omega
  have hn1 : n ≤ 1000000000 := by have := hT.few; dsimp only at hln; omega
  obtain ⟨b, o, t', rfl, hb, ht', hc⟩ := hT.st.at_ (k := a) hlt
  rw [ha] at ht'
  injection ht' with ht'
  subst ht'
  have hM1 : Hid (∀ W, Calls Tryd.prog 14 #[.string (str [sg]), .int .i64 (long : Int), .slice none 0 0, .string (str label)] W fun e w' => e = .returned (.string (str (markX sg long false label))) ∧ w' = W) := Lib.hid (fun W => rMark_any sg long none 0 0 0 [] label W hlong (by unfold maxLen; omega) (by simp) hlab (Strs.nil _ _ _))
  have hM2 : Hid (∀ (W0 W : World), Below W0.heap.size W0 W → W.heap[W0.heap.size]? = some (.cells #[.string { data := #[120] }] 9 (0, 0)) → Calls Tryd.prog 14 #[.string (str [sg]), .int .i64 (long : Int), .slice (some ⟨W0.heap.size, 0, none⟩) 1 1, .string (str label)] W fun e w' => e = .returned (.string (str (markX sg long true label))) ∧ Below W0.heap.size W0 w') := Lib.hid (fun W0 W hb h =>
    (rMark_any sg long _ 1 1 _ [[120]] label W hlong (by unfold maxLen; omega) (fun s hs => by rw [List.mem_singleton.1 hs]; show 1 ≤ maxLen; unfold maxLen; omega) hlab (txr_of (n := 1) (ss := [[120]]) h rfl rfl (by unfold maxLen; omega)).2.2).mono fun e w' h => ⟨h.1, by rw [h.2]; exact hb⟩)
  have i1 : (0 : Int) ≤ (a : Int) := by omega
  have i2 : (a : Int) < (n : Int) := by omega
  obtain ⟨e1, he1⟩ : ∃ e, ((str t).toList == (str (markX sg long false label)).toList) = e := ⟨_, rfl⟩
  obtain ⟨e2, he2⟩ : ∃ e, ((str t).toList == (str (markX sg long true label)).toList) = e := ⟨_, rfl⟩
  have hf : Hid (fitM long t sg label = if e1 = true then some false else if e2 = true then some true else none) := Lib.hid (by
    have h1 : (t = markX sg long false label) ↔ e1 = true := by rw [← he1, str_same, decide_eq_true_eq]
    have h2 : (t = markX sg long true label) ↔ e2 = true := by rw [← he2, str_same, decide_eq_true_eq]
    unfold fitM
    simp only [h1, h2])
  obtain ⟨C, hC⟩ : ∃ C, str [sg] = C := ⟨_, rfl⟩
  obtain ⟨L, hL⟩ : ∃ L, str label = L := ⟨_, rfl⟩
  obtain ⟨T, hTt⟩ : ∃ T, str t = T := ⟨_, rfl⟩
  obtain ⟨M1, hM1'⟩ : ∃ T, str (markX sg long false label) = T := ⟨_, rfl⟩
  obtain ⟨M2, hM2'⟩ : ∃ T, str (markX sg long true label) = T := ⟨_, rfl⟩
  rw [hC, hL, hM1'] at hM1
  rw [hC, hL, hM2'] at hM2
  rw [hTt, hM1'] at he1
  rw [hTt, hM2'] at he2
  rw [hTt] at hc
  rw [hC, hL]
  clear hC hL hTt hM1' hM2' hT ha hln
  cases e1
  · have hne1 : (T.toList == M1.toList) = false := he1
    go_enter Tryd.func21, Tryd.ntmps21
    go_wp2
    go_quiet ((go_at_call 14; exact (hM1.out _).mono (fun _ _ h => ⟨h.1, _, h.2⟩)))
    go_wp2
    obtain ⟨wz, hwz⟩ : ∃ wz, wz = (w.alloc (.cells #[.slice (some ⟨b, o, none⟩) n c, .int .i64 (long : Int), .int .i64 (a : Int), .int .i64 style, .int .i64 wrong] 47)).drewN nq := ⟨_, rfl⟩
    rw [← hwz]
    have hBz : Below w.heap.size w wz := by rw [hwz]; exact below_drewN (below_alloc (Below.refl _ _) _) _
    have hSt : StAt wz w.heap.size (some ⟨b, o, none⟩, n, c) long a style wrong := by rw [hwz]; exact StAt.new w (some ⟨b, o, none⟩, n, c) long a style wrong
    have hlz := hSt.lt
    obtain ⟨x0, x1, x2, -⟩ := hSt.cells
    have x3 : wz.cell? ⟨b, o + a, none⟩ = some (.string T) := (hBz.cell hb).trans hc
    have hbz : b < wz.heap.size := Nat.lt_of_lt_of_le hb hBz.size
    have hS : Hid (∀ W, Below wz.heap.size wz W → W.cell? ⟨w.heap.size, 0, none⟩ = some (.slice (some ⟨b, o, none⟩) n c) ∧ W.cell? ⟨w.heap.size, 1, none⟩ = some (.int .i64 (long : Int)) ∧ W.cell? ⟨w.heap.size, 2, none⟩ = some (.int .i64 (a : Int)) ∧ W.cell? ⟨b, o + a, none⟩ = some (.string T)) := Lib.hid (fun W h => ⟨(h.cell hlz).trans x0, (h.cell hlz).trans x1, (h.cell hlz).trans x2, (h.cell hbz).trans x3⟩)
    have hrefl := Below.refl wz.heap.size wz
    have hBzh := Lib.hid hBz
    clear hwz hBz hSt hc
    go_region_held3 (fun wx : World => wx.cell? ⟨w.heap.size, 0, none⟩ = some (.slice (some ⟨b, o, none⟩) n c) ∧ wx.cell? ⟨w.heap.size, 1, none⟩ = some (.int .i64 (long : Int)) ∧ wx.cell? ⟨w.heap.size, 2, none⟩ = some (.int .i64 (a : Int)) ∧ wx.cell? ⟨b, o + a, none⟩ = some (.string T))
      ((first | exact ⟨x0, x1, x2, x3⟩ | (refine hS.out _ ?_; repeat (first | assumption | refine below_drew ?_ | refine below_alloc ?_ _))))
      ((go_at_call 14; refine (hM2.out wz _ ?_ ?_).mono ?_; (repeat (first | assumption | refine below_drew ?_ | refine below_alloc ?_ _)); exact Go.Deep.blk_alloc_new _ _; rintro e w7 ⟨rfl, hb7⟩))
    have hB7 := Lib.hid (hBzh.out.trans (hb7.mono hBzh.out.size))
    cases e2
    · go_wp2
      go_ret
      exact ⟨ret_int (by rw [hf.out]; simp [fitI]), hB7.out⟩
    · go_wp2
      go_ret
      exact ⟨ret_int (by rw [hf.out]; simp [fitI]), hB7.out⟩
  · go_enter Tryd.func21, Tryd.ntmps21
    go_wp2
    go_quiet ((go_at_call 14; exact (hM1.out _).mono (fun _ _ h => ⟨h.1, _, h.2⟩)))
    go_wp2
    go_ret
    exact ⟨ret_int (by rw [hf.out]; simp [fitI]), below_drewN (below_alloc (Below.refl _ _) _) _⟩
end Go.Proofs.YtcpopnhnihbofaaDoor
/- Proved here: the contract of the document's own answer of layer 13: opened. -/
namespace Go.Proofs.YtcpopnhnihbofaaDoor
open Go.RowKit
set_option linter.unusedVariables false
set_option maxRecDepth 100000

theorem openT_set {ss : Txs} {n : Nat} {t : Tx} (hl : ss.length = n + 1) (ht : ss[n]? = some t) (h2 : 2 ≤ t.length) : openT true ss = some (ss.set n t.dropLast) := by
  have hg : ss.getLast? = some t := by rw [List.getLast?_eq_getElem?, hl]; exact ht
  unfold openT
  rw [if_pos rfl, hg]
  dsimp only
  rw [if_neg (by omega)]
  congr 1
  apply List.ext_getElem?
  intro i
  rw [List.getElem?_set]
  rcases Nat.lt_trichotomy i n with h | h | h
  · rw [List.getElem?_append_left (by rw [List.length_dropLast]; omega), List.getElem?_dropLast, if_pos (by omega), if_neg (by omega)]
  · subst h
    rw [List.getElem?_append_right (by rw [List.length_dropLast]; omega), List.length_dropLast, if_pos rfl, if_pos (by omega)]
    rw [hl, Nat.add_sub_cancel, Nat.sub_self]
    rfl
  · rw [List.getElem?_eq_none (by rw [List.length_append, List.length_dropLast, List.length_singleton]; omega), if_neg (by omega), List.getElem?_eq_none (by omega)]
theorem openT_short {ss : Txs} {n : Nat} {t : Tx} (hl : ss.length = n + 1) (ht : ss[n]? = some t) (h2 : t.length < 2) : openT true ss = none := by
  have hg : ss.getLast? = some t := by rw [List.getLast?_eq_getElem?, hl]; exact ht
  unfold openT
  rw [if_pos rfl, hg]
  dsimp only
  rw [if_pos h2]
theorem str_drop (t : Tx) (h : 1 ≤ t.length) : (str t).extract 0 (t.length - 1) = str t.dropLast := by
  apply ByteArray.ext
  apply Array.toList_inj.1
  rw [Lib.extract_data, str_data, str_data]
  simp [List.dropLast_eq_take]

set_option maxHeartbeats 1000000 in
theorem opened1_any (A : Option Addr) (n c : Nat) (how : Int) (w : World) (h : how < 2) :
    Calls Tryd.prog 42 #[.slice A n c, .int .i64 how] w fun e w' => e = .returned (.tuple #[.slice A n c, .bool true]) ∧ w' = w := by
  go_enter Tryd.func42, Tryd.ntmps42
  go_wp2
  go_ret2
  exact ⟨rfl, rfl⟩
/-- What a part is, opened. -/
def OpOut (w w' : World) (e : Ending) (q : Option Txs) : Prop := match q with
  | none => e = .returned (.tuple #[.slice none 0 0, .bool false]) ∧ w' = w
  | some q => ∃ v, e = .returned (.tuple #[v, .bool true]) ∧ TxO w w' v q
set_option maxHeartbeats 4000000 in
theorem opened2_any (A : Option Addr) (n c B : Nat) (ss : Txs) (w : World) (hn : n ≤ 1000000000) (hs : ∀ s ∈ ss, s.length ≤ 1000000000) (hB : B ≤ w.heap.size) (hA : Strs w B A n ss) :
    Calls Tryd.prog 42 #[.slice A n c, .int .i64 2] w fun e w' => OpOut w w' e (openT true ss) := by
  have hl := hA.len
  obtain ⟨i0, hi, hzz⟩ := Option.map_eq_some_iff.1 infoStr
  simp only [Prod.mk.injEq] at hzz
  obtain ⟨hz0, hz1, hz2⟩ := hzz
  have hw0 := own_empty w w.heap.size 9 (Nat.le_refl _)
  have hB0 := below_alloc (Below.refl w.heap.size w) (.cells #[] 9)
  have hA0 := Lib.hid (Strs.below (hA.more hB) hB0)
  have hm : Hid (0 + n ≤ maxLen ∧ (0 + n) * 16 ≤ 140737488355328) := Lib.hid ⟨by unfold maxLen; omega, by omega⟩
  cases n with
  | zero =>
    have : ss = [] := List.eq_nil_of_length_eq_zero hl
    subst this
    clear hA hm
    go_enter Tryd.func42, Tryd.ntmps42
    go_wp2
    go_ret2
    exact ⟨rfl, rfl⟩
  | succ m =>
    obtain ⟨t, ht⟩ : ∃ t, ss[m]? = some t := ⟨ss[m]'(by omega), List.getElem?_eq_getElem _⟩
    obtain ⟨b, o, t', rfl, hb, ht', hc⟩ := hA.at_ (k := m) (by omega)
    rw [ht] at ht'
    injection ht' with ht'
    subst ht'
    have hbw : b < w.heap.size := by omega
    have htl : t.length ≤ 1000000000 := hs t (List.mem_of_getElem? ht)
    have hts : (str t).size = t.length := str_size t
    obtain ⟨N, hN⟩ : ∃ N, m + 1 = N := ⟨_, rfl⟩
    have hlh := Lib.hid hl
    have hth := Lib.hid ht
    by_cases h2 : t.length < 2
    · rw [openT_short hl ht h2]
      rw [hN]
      have hN0 : ((N : Int) == 0) = false := by rw [beq_eq_false_iff_ne]; omega
      have hNi : (N : Int) - 1 = (m : Int) := by omega
      have hNw : IntKind.i64.wrap ((N : Int) - 1) = (m : Int) := by rw [hNi]; exact IntWalk.i64_in _ (by omega)
      have i1 : (0 : Int) ≤ (m : Int) := by omega
      have i2 : (m : Int) < (N : Int) := by omega
      have hT2 : decide (((str t).size : Int) < 2) = true := decide_eq_true (by omega)
      obtain ⟨T, hTt⟩ : ∃ T, str t = T := ⟨_, rfl⟩
      rw [hTt] at hc hT2
      clear hA hl hA0 hm hlh hth hs hi ht hN hts hTt
      go_enter Tryd.func42, Tryd.ntmps42
      go_wp2
      go_ret2
      exact ⟨rfl, rfl⟩
    · have hop := openT_set hl ht (by omega)
      rw [hop]
      have hdr := Lib.hid (str_drop t (by omega))
      rw [hN] at hA0 hm hlh ⊢
      have hN0 : ((N : Int) == 0) = false := by rw [beq_eq_false_iff_ne]; omega
      have hNi : (N : Int) - 1 = (m : Int) := by omega
      have hNw : IntKind.i64.wrap ((N : Int) - 1) = (m : Int) := by rw [hNi]; exact IntWalk.i64_in _ (by omega)
      have hmw : IntKind.i64.wrap (m : Int) = (m : Int) := IntWalk.i64_in _ (by omega)
      have i1 : (0 : Int) ≤ (m : Int) := by omega
      have i2 : (m : Int) < (N : Int) := by omega
      obtain ⟨k, hk⟩ : ∃ k, t.length = k + 2 := ⟨t.length - 2, by omega⟩
      rw [hk] at hdr hts
      have hT2 : decide (((str t).size : Int) < 2) = false := decide_eq_false (by omega)
      have hT3 : ((str t).size : Int) - 1 = (k : Int) + 1 := by omega
      have hT4 : IntKind.i64.wrap (((str t).size : Int) - 1) = (k : Int) + 1 := by rw [hT3]; exact IntWalk.i64_in _ (by omega)
      have hNh := Lib.hid hN
      clear hA hl hs ht hN hop h2
      go_enter Tryd.func42, Tryd.ntmps42
      go_wp2_with (at_builtin; refine wpList_append_reads _ rfl _ _ 22 rfl w.heap.size 9 i0 (.string ByteArray.empty) 16 Tryd.underlying22 hi hz0 hz1 hz2 rfl _ 0 [] rfl hw0 w.heap.size (some ⟨b, o, none⟩) N c _ rfl hA0.out (strs_one _) hm.out.1 hm.out.2 hB0.size ?_; intro v1 w1 hown1 hg1; have hB1 : Below w.heap.size w w1 := hB0.grown hg1 hB0.size (fun j e => (hw0.lt j e).1); rw [Nat.zero_add, List.nil_append] at hown1; obtain ⟨g, cap, rfl⟩ := (show ∃ g cap, v1 = .slice (some ⟨g, 0, none⟩) N cap from by rw [← hNh.out] at hown1 ⊢; exact ownsRow_succ hown1); have hc1 := hown1.cellAt (j := m) (by omega); have hf1 := hown1.frozenAt m; have hgl := (hown1.lt g rfl); have hcs : w1.cell? ⟨g, m, none⟩ = some (.string (str t)) := (by rw [hc1, List.getElem?_map, hth.out]; rfl); clear hc1)
      go_ret2
      obtain ⟨s1, s2⟩ := hown1.stored m (.string ((str t).extract 0 (k + 1)))
      refine ⟨_, rfl, ?_, hB1.grown s2 hB1.size (fun j e => by injection e with e; omega)⟩
      rw [List.length_set, hlh.out, List.map_set, ← hdr.out]
      exact s1
end Go.Proofs.YtcpopnhnihbofaaDoor
