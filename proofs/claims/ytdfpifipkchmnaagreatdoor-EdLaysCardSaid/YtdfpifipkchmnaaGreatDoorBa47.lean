/- Proved here: texts joined: DtFnB, DtBl, EdB, EdLawD. -/
import Derived.Test.YtdfpifipkchmnaaGreatDoorBa33
import Derived.Test.YtdfpifipkchmnaaGreatDoorBa44
import Derived.Test.YtdfpifipkchmnaaGreatDoorBa45
import Derived.Deep.DeepCutAuto
import Derived.Deep.RegionHeld3
/- Proved here: the closure of the landed dots.Block. -/
namespace Go.Proofs.YtdfpifipkchmnaaGreatDoor
open Go.RowKit
set_option linter.unusedVariables false
set_option maxRecDepth 100000
theorem blockF_any (Bd : Nat) : ChF 29 Bd dotT pointB := by
  intro b t w ht hb
  have h := Lib.hid (pref_any t w ht)
  have c0 := hb.cell
  have c1 := hb.frozen
  have hset := Lib.hid (And.intro (hb.set (.bool true)) (But.setCell (F := fun k => k = Bd) w (p := ⟨Bd, 0, none⟩) rfl (.bool true)))
  have hsz : ¬ 9223372036854775807 < 1 + (str t).size := by rw [str_size]; omega
  obtain ⟨p, hp⟩ : ∃ p, pointB t = p := ⟨_, rfl⟩
  rw [hp] at h ⊢
  have hbh := Lib.hid hb
  cases p
  · rw [(plain_dot hp).1]
    clear hp hb
    go_enter Tryz.func29, Tryz.ntmps29
    go_wp2_with (go_at_call 30; refine h.out.mono ?_; rintro e w' ⟨rfl, rfl⟩)
    go_ret
    exact ⟨rfl, by rw [Bool.or_false]; exact hbh.out, But.refl _ _⟩
  · have hd : Hid ((⟨#[46]⟩ : ByteArray) ++ str t = str (dotT t)) := Lib.hid (by rw [str_dot]; unfold dotT; rw [if_pos hp])
    obtain ⟨D, hD⟩ : ∃ D, str (dotT t) = D := ⟨_, rfl⟩
    rw [hD] at hd ⊢
    clear hp hb hD
    go_enter Tryz.func29, Tryz.ntmps29
    go_wp2_with (go_at_call 30; refine h.out.mono ?_; rintro e w' ⟨rfl, rfl⟩)
    go_ret
    exact ⟨ret_string (by rw [← hd.out]), by rw [Bool.or_true]; exact hset.out.1, hset.out.2⟩
end Go.Proofs.YtdfpifipkchmnaaGreatDoor
/- Proved here: the contract of the landed dots.Block. -/
namespace Go.Proofs.YtdfpifipkchmnaaGreatDoor
open Go.RowKit
set_option linter.unusedVariables false
set_option maxRecDepth 100000

set_option maxHeartbeats 2000000 in
theorem block_own (A : Option Addr) (n c : Nat) (l : Txs) (w : World) (hsm : smallD l) (hA : TxR w w.heap.size (A, n, c) l) : Calls Tryz.prog 14 #[.slice A n c] w fun e w' => OwnB w w' e (blockD l, dottedB l) := by
  obtain ⟨i0, hi, hzz⟩ := Option.map_eq_some_iff.1 infoStr
  simp only [Prod.mk.injEq] at hzz
  obtain ⟨hz0, hz1, hz2⟩ := hzz
  obtain ⟨W0, hW0⟩ : ∃ W0, W0 = w.alloc (.cells #[.bool false] 4) := ⟨_, rfl⟩
  have hB0 : Below w.heap.size w W0 := by rw [hW0]; exact below_alloc (Below.refl _ _) _
  have hbox : Boxed W0 w.heap.size 4 (.bool false) := by rw [hW0]; exact Boxed.new _ _ _
  have hO := oth_any 29 w.heap.size dotT pointB A n c w.heap.size l W0 hsm (hA.2.2.below hB0) (Nat.le_refl _) hbox (enters_of Tryz.func29 (by kernel_rfl) rfl) (blockF_any _)
  have hlen : l.length ≤ 100000 := hsm.1
  have hOh : Hid (Calls Tryz.prog 28 #[.slice A n c, .func (.func 29) #[] #[.pointer (some ⟨w.heap.size, 0, none⟩)]] W0 fun e w1 => ∃ G m, e = .returned (.slice (some ⟨G, 0, none⟩) m m) ∧ (l.map dotT).length = m ∧ w.heap.size < G ∧ TxO w w1 (.slice (some ⟨G, 0, none⟩) m m) (l.map dotT) ∧ Boxed w1 w.heap.size 4 (.bool (dottedB l))) := Lib.hid (hO.mono fun e w1 h => by rw [hW0] at h; exact OthOut.fin h)
  have hbl : Hid (l.map dotT ++ [endD] = blockD l) := Lib.hid rfl
  have hml : (l.map dotT).length ≤ 100000 := by rw [List.length_map]; exact hlen
  obtain ⟨xs, hxs⟩ : ∃ xs, l.map dotT = xs := ⟨_, rfl⟩
  obtain ⟨b, hb⟩ : ∃ b, dottedB l = b := ⟨_, rfl⟩
  obtain ⟨R, hR⟩ : ∃ R, blockD l = R := ⟨_, rfl⟩
  rw [hxs] at hOh hbl hml
  rw [hb] at hOh ⊢
  rw [hR] at hbl ⊢
  have hW0h := Lib.hid hW0
  have hmlh := Lib.hid hml
  clear hO hA hsm hW0 hB0 hbox hxs hb hR hlen hml
  go_enter Tryz.func14, Tryz.ntmps14
  go_upto_region 2 with fail
  rw [← hW0h.out]
  go_upto_region 3 with (go_at_call 28; refine hOh.out.mono ?_; rintro e w1 ⟨G, m, rfl, hl, hG, hT, hbx⟩; have hlh := Lib.hid hl; have hTh := Lib.hid hT; have hbxh := Lib.hid hbx; have hGh := Lib.hid hG; clear hl hT hbx hG)
  have x0 := hbxh.out.cell
  have x1 : (w1.alloc (.cells #[.string ⟨#[46, 10]⟩] 9)).cell? ⟨w.heap.size, 0, none⟩ = some (.bool b) := (hbxh.out.alloc _).cell
  have hTd : TxO w w1.drew (.slice (some ⟨G, 0, none⟩) m m) xs := hTh.out.call (below_drew (Below.refl _ _))
  have hown : (w1.drew.alloc (.cells #[.string ⟨#[46, 10]⟩] 9)).ownsRow w.heap.size 9 1 (.slice (some ⟨G, 0, none⟩) m m) m (xs.map fun s => .string (str s)) := by
    have := hTd.own.alloc (.cells #[.string ⟨#[46, 10]⟩] 9)
    rw [hlh.out] at this
    exact this
  have hcell : Hid (∀ (W : World) (S : ByteArray) j x, ([.string S] : List Value)[j]? = some x → (W.alloc (.cells #[.string S] 9)).cell? ((⟨W.heap.size, 0, none⟩ : Addr).add j) = some x) := Lib.hid (fun W S j x hx => by
    rw [show (⟨W.heap.size, 0, none⟩ : Addr).add j = ⟨W.heap.size, j, none⟩ from by unfold Addr.add; split <;> simp_all, cells_of (one_a W _)]
    simpa using hx)
  have hmax : Hid (m + 1 ≤ maxLen ∧ (m + 1) * 16 ≤ 140737488355328) := Lib.hid (by have := hmlh.out; have := hlh.out; exact ⟨by unfold maxLen; omega, by omega⟩)
  have hbase : w.heap.size ≤ (w1.drew.alloc (.cells #[.string ⟨#[46, 10]⟩] 9)).heap.size := by have := hTd.below.size; simp at this ⊢; omega
  have hfin : Hid (∀ (v' : Value) (w2 : World), w2.ownsRow w.heap.size 9 1 v' (m + 1) ((xs.map fun s => .string (str s)) ++ [.string ⟨#[46, 10]⟩]) → (w1.drew.alloc (.cells #[.string ⟨#[46, 10]⟩] 9)).grownBy w2 (some G) →
      w2.cell? ⟨w.heap.size, 0, none⟩ = some (.bool b) ∧ TxO w w2 v' R) := Lib.hid (fun v' w2 h1 h2 => by
    refine ⟨?_, ?_⟩
    · have hb2 : Boxed (w1.drew.alloc (.cells #[.string ⟨#[46, 10]⟩] 9)) w.heap.size 4 (.bool b) := Boxed.alloc (W := w1.drew) hbxh.out _
      exact (hb2.kept h2 (by have := hGh.out; intro e; injection e with e; omega)).cell
    · rw [← hbl.out]
      exact hTd.push (s := endD) (by rw [hlh.out]; exact h1) h2)
  have hbase2 := hbase
  clear hTd
  go_region_law (refine step_append_own rfl (.tmp 9) (.tmp 10) 22 rfl w.heap.size 9 i0 (.string ByteArray.empty) 1 16 Tryz.underlying22 hi hz0 hz1 hz2 rfl (by decide) (.slice (some ⟨G, 0, none⟩) m m) m _ (by simp [Act.eval]) hown ⟨w1.heap.size, 0, none⟩ 1 1 [.string ⟨#[46, 10]⟩] (by simp [Act.eval]) rfl (hcell.out w1.drew _) (by simp; rfl) hmax.out.1 hmax.out.2 hbase ?_; intro v' w2 hown2 hg2 hloc2; obtain ⟨x2, hT2⟩ := hfin.out v' w2 hown2 hg2; have hT2h := Lib.hid hT2; clear hown2 hg2 hloc2 hT2)
  all_goals
    go_wp2
    go_ret2
    exact ⟨v', rfl, hT2h.out⟩
theorem block_anyL : DotBlockOk := fun A n c l w hsm hA => (block_own A n c l w hsm hA).mono fun e w' h => h.out
end Go.Proofs.YtdfpifipkchmnaaGreatDoor
/- Proved here: what the statement EdLays asks besides: the contract of the landed dots.Block. -/
namespace Go.Proofs.YtdfpifipkchmnaaGreatDoor
theorem dtb_ok : DotBlockOk := block_anyL
end Go.Proofs.YtdfpifipkchmnaaGreatDoor
/- Proved here: what the statement EdDeletes says, by the contract of ed.Run. -/
namespace Go.Proofs.YtdfpifipkchmnaaGreatDoor
open Go.RowKit
set_option linter.unusedVariables false
set_option maxRecDepth 100000

/-- Commands on the file, where the list is made for them. -/
theorem list_run (H : EdRunOk) (A : Option Addr) (n c k : Nat) (file Ts : Txs) (C : Array Value) (w : World) (hC : C = (Ts.map fun s => Value.string (str s)).toArray) (hk : Ts.length = k) (hk2 : k ≤ 1000) (hT : ∀ s ∈ Ts, s.length ≤ 10000) (hf : smallE file) (h0 : TxR w w.heap.size (A, n, c) file) (W : World) (hW : Below w.heap.size w W) :
    Calls Tryz.prog 9 #[.slice (some ⟨W.heap.size, 0, none⟩) k k, .slice A n c] (W.alloc (.cells C 9)) fun e w' => EdOut (W.alloc (.cells C 9)) w' e (edR Ts file) :=
  H (some ⟨W.heap.size, 0, none⟩) k k Ts A n c file _ ⟨by omega, hT⟩ hf (txr_of (one_a W _) hC hk (by unfold maxLen; omega)) (h0.up (below_alloc hW _))

section
variable (H : EdRunOk)
include H

set_option maxHeartbeats 16000000 in
theorem EdDeletes_walk (A : Option Addr) (n c : Nat) (file : Txs) (x y : Int) (w : World) (h0 : TxR w w.heap.size (A, n, c) file) (hx : 0 ≤ x ∧ x ≤ 255) (hy : 0 ≤ y ∧ y ≤ 255) :
    Calls Tryz.prog 5 #[.slice A n c, .agg #[.int .u8 x, .int .u8 y]] w fun e w' => e = .returned (.bool true) ∧ Below w.heap.size w w' := by
  obtain ⟨xn, rfl⟩ : ∃ xn : Nat, x = xn := ⟨x.toNat, by omega⟩
  obtain ⟨yn, rfl⟩ : ∃ yn : Nat, y = yn := ⟨y.toNat, by omega⟩
  obtain ⟨W0, hW0⟩ : ∃ W0, W0 = w.alloc (.cells #[.int .u8 (xn : Int), .int .u8 (yn : Int)] 31) := ⟨_, rfl⟩
  have hb0 : Below w.heap.size w W0 := by rw [hW0]; exact (Below.refl _ _).alloc (Nat.le_refl _) _
  have k0 : W0.heap[w.heap.size]? = some (.cells #[.int .u8 (xn : Int), .int .u8 (yn : Int)] 31 (0, 0)) := by rw [hW0]; exact Go.Deep.blk_alloc_new w _
  have haw := Lib.hid (edAwake_any H W0)
  have hk0 := Lib.hid k0
  have hW0b := Lib.hid hb0
  have hW0h := Lib.hid hW0
  have hlt0 : Hid (w.heap.size < W0.heap.size) := Lib.hid (Array.getElem?_eq_some_iff.1 k0).1
  have hln : file.length = n := h0.2.2.len
  obtain ⟨fm, hfm⟩ : ∃ fm, fewB file 20 = fm := ⟨_, rfl⟩
  have hF := Lib.hid (few_call A n c 20 file w (by decide) h0 fm hfm)
  clear hb0 k0 hW0
  cases fm
  · clear h0 hfm H hln hx hy
    go_enter Tryz.func5, Tryz.ntmps5
    go_upto_region 1 with fail
    rw [← hW0h.out]
    go_wp2_with (first
      | (go_at_call 7; refine haw.out.mono ?_; rintro e w1 ⟨rfl, hb1⟩; have hB1 := Lib.hid (hW0b.out.trans (hb1.mono hW0b.out.size)); have hh1 := (hb1.block _ hlt0.out).trans hk0.out; have w0c : w1.cell? ⟨w.heap.size, 0, none⟩ = some (.int .u8 (xn : Int)) := (by rw [cells_of hh1]; rfl); have w1c : w1.cell? ⟨w.heap.size, 1, none⟩ = some (.int .u8 (yn : Int)) := (by rw [cells_of hh1]; rfl); clear hb1 hh1)
      | (go_at_call 8; refine (hF.out _ hB1.out).mono ?_; rintro e w2 ⟨rfl, hww⟩; have hws := hww.symm; clear hww; subst hws))
    go_ret
    exact ⟨rfl, hB1.out⟩
  have hls := few_lens hfm
  have hk := fewK hfm (by decide)
  have hfE := few_E hfm (by decide)
  obtain ⟨mb, hmb⟩ : ∃ mb, mayB file = mb := ⟨_, rfl⟩
  obtain ⟨ob, hob⟩ : ∃ ob, openB file = ob := ⟨_, rfl⟩
  have hM := Lib.hid (may_call A n c file w hls h0 mb hmb)
  have hO := Lib.hid (open_call A n c file w hls h0 ob hob)
  by_cases hg : mb = true ∧ ob = false ∧ 1 ≤ n
  rotate_left
  · have hways : mb = false ∨ (mb = true ∧ ob = true) ∨ (mb = true ∧ ob = false ∧ n = 0) := by
      cases mb
      · exact .inl rfl
      · cases ob
        · exact .inr (.inr ⟨rfl, rfl, by simp at hg; omega⟩)
        · exact .inr (.inl ⟨rfl, rfl⟩)
    clear h0 hfm H hg hls hk hfE hmb hob hln hx hy
    rcases hways with rfl | ⟨rfl, rfl⟩ | ⟨rfl, rfl, rfl⟩
    all_goals
      go_enter Tryz.func5, Tryz.ntmps5
      go_upto_region 1 with fail
      rw [← hW0h.out]
      go_wp2_with (first
      | (go_at_call 7; refine haw.out.mono ?_; rintro e w1 ⟨rfl, hb1⟩; have hB1 := Lib.hid (hW0b.out.trans (hb1.mono hW0b.out.size)); have hh1 := (hb1.block _ hlt0.out).trans hk0.out; have w0c : w1.cell? ⟨w.heap.size, 0, none⟩ = some (.int .u8 (xn : Int)) := (by rw [cells_of hh1]; rfl); have w1c : w1.cell? ⟨w.heap.size, 1, none⟩ = some (.int .u8 (yn : Int)) := (by rw [cells_of hh1]; rfl); clear hb1 hh1)
      | (go_at_call 8; refine (hF.out _ hB1.out).mono ?_; rintro e w2 ⟨rfl, hww⟩; have hws := hww.symm; clear hww; subst hws)
      | (go_at_call 12; refine (hM.out _ hB1.out).mono ?_; rintro e w2 ⟨rfl, hww⟩; have hws := hww.symm; clear hww; subst hws)
      | (go_at_call 13; refine (hO.out _ hB1.out).mono ?_; rintro e w2 ⟨rfl, hww⟩; have hws := hww.symm; clear hww; subst hws))
      go_ret
      exact ⟨rfl, hB1.out⟩
  obtain ⟨rfl, rfl, hn1⟩ := hg
  have hlines := lines_iff.1 ⟨hmb, hob⟩
  have hn0 : ((n : Int) == 0) = false := by rw [beq_eq_false_iff_ne]; omega
  have hn20 : n ≤ 20 := by omega
  have hn00 : ¬ (n : Int) = 0 := by omega
  obtain ⟨r0, hr0⟩ : ∃ r, xn % n = r := ⟨_, rfl⟩
  have hr0n : r0 < n := by rw [← hr0]; exact Nat.mod_lt _ (by omega)
  have f1 : ((xn : Int)).tmod (n : Int) = (r0 : Int) := by rw [← hr0]; exact Int.ofNat_tmod xn n ▸ rfl
  obtain ⟨m, hm⟩ : ∃ m, 1 + r0 = m := ⟨_, rfl⟩
  have f2 : (1 : Int) + (r0 : Int) = (m : Int) := by omega
  have f3 : IntKind.i64.wrap (m : Int) = (m : Int) := IntWalk.i64_in _ (by omega)
  obtain ⟨d, hd⟩ : ∃ d, n - m = d := ⟨_, rfl⟩
  have f4 : (n : Int) - (m : Int) = (d : Int) := by omega
  have f5 : IntKind.i64.wrap (d : Int) = (d : Int) := IntWalk.i64_in _ (by omega)
  obtain ⟨g, hg⟩ : ∃ g, d + 1 = g := ⟨_, rfl⟩
  have f6 : (d : Int) + 1 = (g : Int) := by omega
  have f7 : IntKind.i64.wrap (g : Int) = (g : Int) := IntWalk.i64_in _ (by omega)
  have f77 : ¬ (g : Int) = 0 := by omega
  have f78 : ((g : Int) == 0) = false := by rw [beq_eq_false_iff_ne]; omega
  obtain ⟨r1, hr1⟩ : ∃ r, yn % g = r := ⟨_, rfl⟩
  have hr1g : r1 < g := by rw [← hr1]; exact Nat.mod_lt _ (by omega)
  have f8 : ((yn : Int)).tmod (g : Int) = (r1 : Int) := by rw [← hr1]; exact Int.ofNat_tmod yn g ▸ rfl
  obtain ⟨N, hN⟩ : ∃ N, m + r1 = N := ⟨_, rfl⟩
  have f9 : (m : Int) + (r1 : Int) = (N : Int) := by omega
  have f10 : IntKind.i64.wrap (N : Int) = (N : Int) := IntWalk.i64_in _ (by omega)
  obtain ⟨Q, hQ⟩ : ∃ Q, m - 1 = Q := ⟨_, rfl⟩
  have f11 : (m : Int) - 1 = (Q : Int) := by omega
  have f12 : IntKind.i64.wrap (Q : Int) = (Q : Int) := IntWalk.i64_in _ (by omega)
  have hm1 : 1 ≤ m := by omega
  have hmN : m ≤ N := by omega
  have hNn : N ≤ n := by omega
  obtain ⟨G, hG⟩ : ∃ G, file.take Q ++ file.drop N = G := ⟨_, rfl⟩
  have hlay : layE file (m - 1) N [] = G := by unfold layE; rw [hQ, List.append_nil, hG]
  have u1 := dels_w hlines hm1 hmN (by omega) (by omega)
  have u2 := dels_q hlines hm1 hmN (by omega) (by omega)
  obtain ⟨line, u3, u4⟩ := dels_all (k := 20) hlines hm1 hmN (by omega) (by omega) (by omega)
  rw [hlay] at u1 u2
  have hdl : (delL m N).length ≤ 10000 := by
    have := fig_len m
    have := fig_len N
    unfold delL
    simp only [List.length_append, List.length_cons, List.length_nil]
    omega
  have hTs : Hid (str (figD m) ++ (⟨#[44]⟩ : ByteArray) ++ str (figD N) ++ ⟨#[100, 10]⟩ = str (delL m N)) := Lib.hid (by
    rw [show (⟨#[44]⟩ : ByteArray) = str [44] from rfl, show (⟨#[100, 10]⟩ : ByteArray) = str [100, 10] from rfl, strs_app, strs_app, strs_app]
    rfl)
  have hFg : Hid (∀ (k : Nat) W, k ≤ 1000000 → Below w.heap.size w W → Calls Tryz.prog 15 #[.int .i64 (k : Int)] W fun e w' => e = .returned (.string (str (figD k))) ∧ Below w.heap.size w w') := Lib.hid (fun k W hk hW => (rFigures_any k W hk).mono fun e w' h => ⟨h.1, hW.trans (h.2.mono hW.size)⟩)
  have hFm := Lib.hid (fun W => hFg.out m W (by omega))
  have hFN := Lib.hid (fun W => hFg.out N W (by omega))
  have z1 := fig_size m (by omega)
  have z2 := fig_size N (by omega)
  obtain ⟨A1, m1, q1, hs1, hT1, e1⟩ := slice_to (k := Q) h0 (by omega)
  obtain ⟨A2, m2, q2, hs2, hT2, e2⟩ := slice_from (k := N) h0 hNn
  have hBt := Lib.hid (fun (W : World) (hW : Below w.heap.size w W) => sBoth_any A1 m1 q1 (file.take Q) A2 m2 q2 (file.drop N) W (by rw [List.length_take]; omega) (by rw [List.length_drop]; omega) (hT1.up hW) (hT2.up hW))
  rw [hG] at hBt
  obtain ⟨FM, hFM⟩ : ∃ F, str (figD m) = F := ⟨_, rfl⟩
  obtain ⟨FN, hFN2⟩ : ∃ F, str (figD N) = F := ⟨_, rfl⟩
  obtain ⟨T, hTT⟩ : ∃ T, str (delL m N) = T := ⟨_, rfl⟩
  have hC1 : Hid (∀ W, Below w.heap.size w W → Calls Tryz.prog 9 #[.slice (some ⟨W.heap.size, 0, none⟩) 2 2, .slice A n c] (W.alloc (.cells #[.string ⟨#[119, 10]⟩, .string T] 9)) fun e w' => EdOut (W.alloc (.cells #[.string ⟨#[119, 10]⟩, .string T] 9)) w' e (G, false, 0, 0)) := Lib.hid (fun W hW => by
    have h := list_run H A n c 2 file [[119, 10], delL m N] #[.string ⟨#[119, 10]⟩, .string T] w (by rw [← hTT]; rfl) rfl (by decide) (List.forall_mem_cons.2 ⟨by decide, List.forall_mem_cons.2 ⟨hdl, by simp⟩⟩) hfE h0 W hW
    rw [u1] at h
    exact h)
  have hC2 : Hid (∀ W, Below w.heap.size w W → Calls Tryz.prog 9 #[.slice (some ⟨W.heap.size, 0, none⟩) 4 4, .slice A n c] (W.alloc (.cells #[.string T, .string ⟨#[119, 10]⟩, .string ⟨#[113, 10]⟩, .string T] 9)) fun e w' => EdOut (W.alloc (.cells #[.string T, .string ⟨#[119, 10]⟩, .string ⟨#[113, 10]⟩, .string T] 9)) w' e (G, true, 0, 0)) := Lib.hid (fun W hW => by
    have h := list_run H A n c 4 file [delL m N, [119, 10], [113, 10], delL m N] #[.string T, .string ⟨#[119, 10]⟩, .string ⟨#[113, 10]⟩, .string T] w (by rw [← hTT]; rfl) rfl (by decide) (List.forall_mem_cons.2 ⟨hdl, List.forall_mem_cons.2 ⟨by decide, List.forall_mem_cons.2 ⟨by decide, List.forall_mem_cons.2 ⟨hdl, by simp⟩⟩⟩⟩) hfE h0 W hW
    rw [u2] at h
    exact h)
  have hC3 : Hid (∀ W, Below w.heap.size w W → Calls Tryz.prog 9 #[.slice (some ⟨W.heap.size, 0, none⟩) 21 21, .slice A n c] (W.alloc (.cells #[.string T, .string T, .string T, .string T, .string T, .string T, .string T, .string T, .string T, .string T, .string T, .string T, .string T, .string T, .string T, .string T, .string T, .string T, .string T, .string T, .string T] 9)) fun e w' => EdOut (W.alloc (.cells #[.string T, .string T, .string T, .string T, .string T, .string T, .string T, .string T, .string T, .string T, .string T, .string T, .string T, .string T, .string T, .string T, .string T, .string T, .string T, .string T, .string T] 9)) w' e ([], false, line, 3)) := Lib.hid (fun W hW => by
    have h := list_run H A n c 21 file (List.replicate 21 (delL m N)) #[.string T, .string T, .string T, .string T, .string T, .string T, .string T, .string T, .string T, .string T, .string T, .string T, .string T, .string T, .string T, .string T, .string T, .string T, .string T, .string T, .string T] w (by rw [← hTT]; rfl) rfl (by decide) (by intro s hs; rw [(List.mem_replicate.1 hs).2]; exact hdl) hfE h0 W hW
    rw [u3] at h
    exact h)
  rw [hTT] at hTs
  rw [hFM] at hFm hTs z1
  rw [hFN2] at hFN hTs z2
  have s1 : ¬ 9223372036854775807 < FM.size + 1 := by omega
  have s2 : ¬ 9223372036854775807 < FM.size + 1 + FN.size := by omega
  have s3 : ¬ 9223372036854775807 < FM.size + 1 + FN.size + 2 := by omega
  have u5 : (1 : Int) < (line : Int) := by omega
  have hxn : xn ≤ 255 := by omega
  have hyn : yn ≤ 255 := by omega
  have tok1 := trivial
  have tokF := trivial
  clear hr0 hr0n hm hd hg hr1 hr1g hN hQ hm1 hmN hNn hG hlay u1 u2 u3 u4 hdl hFg hT1 hT2 hFM hFN2 hTT hlines hn1 hn20 h0 hfm H hls hk hfE hmb hob hln hx hy e1 e2 z1 z2
  go_enter Tryz.func5, Tryz.ntmps5
  go_upto_region 1 with fail
  rw [← hW0h.out]
  go_upto_region 10 with (first
      | (go_at_call 7; refine haw.out.mono ?_; rintro e w1 ⟨rfl, hb1⟩; have hB1 := Lib.hid (hW0b.out.trans (hb1.mono hW0b.out.size)); have hh1 := (hb1.block _ hlt0.out).trans hk0.out; have w0c : w1.cell? ⟨w.heap.size, 0, none⟩ = some (.int .u8 (xn : Int)) := (by rw [cells_of hh1]; rfl); have w1c : w1.cell? ⟨w.heap.size, 1, none⟩ = some (.int .u8 (yn : Int)) := (by rw [cells_of hh1]; rfl); clear hb1 hh1)
      | (go_at_call 8; refine (hF.out _ hB1.out).mono ?_; rintro e w2 ⟨rfl, hww⟩; have hws := hww.symm; clear hww; subst hws)
      | (go_at_call 12; refine (hM.out _ hB1.out).mono ?_; rintro e w2 ⟨rfl, hww⟩; have hws := hww.symm; clear hww; subst hws)
      | (go_at_call 13; refine (hO.out _ hB1.out).mono ?_; rintro e w2 ⟨rfl, hww⟩; have hws := hww.symm; clear hww; subst hws)
      | (go_at_call 15; have _t := tokF; refine (hFm.out _ hB1.out).mono ?_; rintro e w2 ⟨rfl, hb2⟩; have hB2 := Lib.hid hb2; have tokG := trivial; clear hb2 tokF)
      | (go_at_call 15; have _t := tokG; refine (hFN.out _ hB2.out).mono ?_; rintro e w3 ⟨rfl, hb3⟩; have hB3 := Lib.hid hb3; clear hb3 tokG)
      | (go_at_call 9; have _t := tok1; rw [hTs.out]; refine (hC1.out _ hB3.out).mono ?_; rintro e w4 ⟨A4, n4, c4, rfl, p4, q4⟩; have hP4 := Lib.hid p4; have hB4 := Lib.hid ((below_alloc hB3.out _).trans (q4.mono (below_alloc hB3.out _).size)); have tok2 := trivial; clear p4 q4 tok1)
      | (go_at_call 9; have _t := tok2; refine (hC2.out _ hB4.out).mono ?_; rintro e w5 ⟨A5, n5, c5, rfl, p5, q5⟩; have hP4b := Lib.hid (hP4.out.up ((below_alloc (Below.refl _ _) _).trans (q5.mono (below_alloc (Below.refl _ _) _).size))); have hB5 := Lib.hid ((below_alloc hB4.out _).trans (q5.mono (below_alloc hB4.out _).size)); have tok3 := trivial; clear p5 q5 tok2)
      | (go_at_call 9; have _t := tok3; refine (hC3.out _ hB5.out).mono ?_; rintro e w6 ⟨A6, n6, c6, rfl, p6, q6⟩; have hP4c := Lib.hid (hP4b.out.up ((below_alloc (Below.refl _ _) _).trans (q6.mono (below_alloc (Below.refl _ _) _).size))); have hB6 := Lib.hid ((below_alloc hB5.out _).trans (q6.mono (below_alloc hB5.out _).size)); clear p6 q6 tok3))
  have hrefl := Below.refl w6.heap.size w6
  have hB6w := Lib.hid hB6.out
  have hBt2 : Hid (∀ W, Below w6.heap.size w6 W → Calls Tryz.prog 16 #[.slice A1 m1 q1, .slice A2 m2 q2] W fun e w' => ∃ A7 n7 c7, e = .returned (.slice A7 n7 c7) ∧ TxR w' w'.heap.size (A7, n7, c7) G ∧ Below w6.heap.size w6 w') := Lib.hid (fun W hW => (hBt.out W (hB6w.out.trans (hW.mono hB6w.out.size))).mono fun e w' h => by
    obtain ⟨A7, n7, c7, h1, h2, h3⟩ := h
    exact ⟨A7, n7, c7, h1, h2, hW.trans (h3.mono hW.size)⟩)
  have hSm : Hid (∀ A7 n7 c7 W0 W, Below w6.heap.size w6 W0 → TxR W0 W0.heap.size (A7, n7, c7) G → Below W0.heap.size W0 W → Calls Tryz.prog 11 #[.slice A4 n4 c4, .slice A7 n7 c7] W fun e w' => e = .returned (.bool true) ∧ Below w6.heap.size w6 w') := Lib.hid (fun A7 n7 c7 W0 W h1 h2 h3 => by
    have hW := h1.trans (h3.mono h1.size)
    have p4 := hP4c.out.up hW
    have p7 := h2.up h3
    refine (Same_any A4 A7 n4 n7 c4 c7 W.heap.size W.heap.size G G W (Nat.le_trans p4.1 p4.2.1) (Nat.le_trans p7.1 p7.2.1) p4.2.2 p7.2.2).mono ?_
    rintro e w' ⟨rfl, q, rfl⟩
    exact ⟨by rw [decide_eq_true (rfl : G = G)], below_drewN hW q⟩)
  clear hC1 hC2 hC3 hFm hFN hM hO hF haw hBt hTs
  go_region_held3 (fun wx : World => True)
    (trivial)
    ((first
      | (go_at_call 16; refine (hBt2.out _ ?_).mono ?_; (repeat (first | exact hrefl | refine below_drew ?_)); rintro e w7 ⟨A7, n7, c7, rfl, p7, q7⟩; have hP7 := Lib.hid p7; have hB7 := Lib.hid q7; have hrefl7 := Below.refl w7.heap.size w7; clear p7 q7)
      | (go_at_call 11; refine (hSm.out _ _ _ _ _ hB7.out hP7.out ?_).mono ?_; (repeat (first | exact hrefl7 | refine below_drew ?_)); rintro e w8 ⟨rfl, q8⟩; have hB8 := Lib.hid q8; clear q8)))
  all_goals
    go_wp2
    go_ret
    exact ⟨rfl, hB6w.out.trans (hB8.out.mono hB6w.out.size)⟩
end
end Go.Proofs.YtdfpifipkchmnaaGreatDoor
