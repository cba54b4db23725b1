/- Proved here: texts joined: UnLawD, FrameU, PkSide, PkChoose. -/
import Derived.Test.YtcpopnhnihbofaaGreatDoorBe01
import Derived.Test.YtcpopnhnihbofaaGreatDoorBe07
import Derived.Test.YtcpopnhnihbofaaGreatDoorBe12
import Derived.Test.YtcpopnhnihbofaaGreatDoorBe20
import Derived.Test.YtcpopnhnihbofaaGreatDoorBe21
import Derived.Test.YtcpopnhnihbofaaGreatDoorBe31
import Derived.Test.YtcpopnhnihbofaaGreatDoorBe43
import Derived.Deep.Slices
/- Proved here: what the statement UnmarkChoose says, by the contracts of packages mark, unmark and pick. -/
namespace Go.Proofs.YtcpopnhnihbofaaGreatDoor
open Go.RowKit
set_option linter.unusedVariables false
set_option maxRecDepth 100000

section
variable (H : UnmParseOk) (H2 : MarkPrintOk) (H3 : PickChooseOk)
include H H2 H3

set_option maxHeartbeats 8000000 in
theorem UnmarkChoose_walk (A : Option Addr) (n c : Nat) (vs : List PcV) (ps : List Pc) (how : Int) (x y : Int) (w : World) (h0 : ArgPcs w A n c vs ps) (hst : inR64 how) (hx : 0 ≤ x ∧ x ≤ 255) (hy : 0 ≤ y ∧ y ≤ 255) :
    Calls Tryz.prog 5 #[.slice A n c, .int .i64 how, .agg #[.int .u8 x, .int .u8 y]] w fun e w' => e = .returned (.bool true) ∧ Below w.heap.size w w' := by
  obtain ⟨hnc, hcm, hA⟩ := h0
  obtain ⟨W1, hW1⟩ : ∃ W1, W1 = w.alloc (.cells #[.int .u8 x, .int .u8 y] 37) := ⟨_, rfl⟩
  have hb1 : Below w.heap.size w W1 := by rw [hW1]; exact (Below.refl _ _).alloc (Nat.le_refl _) _
  have k1 : W1.heap[w.heap.size]? = some (.cells #[.int .u8 x, .int .u8 y] 37 (0, 0)) := by rw [hW1]; exact Go.Deep.blk_alloc_new w _
  have haw := Lib.hid (unAwake_any H W1)
  have hk1 := Lib.hid k1
  have hb1h := Lib.hid hb1
  have hlt : Hid (w.heap.size < W1.heap.size) := Lib.hid (Array.getElem?_eq_some_iff.1 k1).1
  obtain ⟨xn, rfl⟩ : ∃ xn : Nat, x = xn := ⟨x.toNat, by omega⟩
  obtain ⟨yn, rfl⟩ : ∃ yn : Nat, y = yn := ⟨y.toNat, by omega⟩
  obtain ⟨P, hP⟩ : ∃ P : Nat, xn % 12 = P := ⟨_, rfl⟩
  have hP5 : P < 12 := by omega
  have hPt : ((xn : Int)).tmod 12 = (P : Int) := by rw [← hP]; exact Int.ofNat_tmod xn 12 ▸ rfl
  obtain ⟨lg, hLg⟩ : ∃ L : Nat, P + 1 = L := ⟨_, rfl⟩
  have hLi : (1 : Int) + (P : Int) = (lg : Int) := by omega
  have hwL : IntKind.i64.wrap (lg : Int) = (lg : Int) := IntWalk.i64_in _ (by omega)
  obtain ⟨Q, hQ⟩ : ∃ Q : Nat, yn % 6 = Q := ⟨_, rfl⟩
  have hQ5 : Q < 6 := by omega
  have hQt : ((yn : Int)).tmod 6 = (Q : Int) := by rw [← hQ]; exact Int.ofNat_tmod yn 6 ▸ rfl
  obtain ⟨Z, hZ⟩ : ∃ Z : Nat, Q + 1 = Z := ⟨_, rfl⟩
  have hZi : (1 : Int) + (Q : Int) = (Z : Int) := by omega
  have hwZ : IntKind.i64.wrap (Z : Int) = (Z : Int) := IntWalk.i64_in _ (by omega)
  have hlg1 : 1 ≤ lg := by omega
  have hlg12 : lg ≤ 12 := by omega
  have hZ1 : 1 ≤ Z := by omega
  have hZ6 : Z ≤ 6 := by omega
  have hlgr : inR64 (lg : Int) := by unfold inR64; omega
  have hZr : inR64 (Z : Int) := by unfold inR64; omega
  have hxn : xn ≤ 255 := by omega
  have hyn : yn ≤ 255 := by omega
  obtain ⟨fm, hfm⟩ : ∃ fm, mayM ps how (lg : Int) = fm := ⟨_, rfl⟩
  have hF := Lib.hid (fun (W : World) (hb : Below w.heap.size w W) => rMkMay_any A n c vs ps how (lg : Int) W hnc hcm hst hlgr (hA.up hb))
  rw [hfm] at hF
  subst hW1
  have hAp : Hid (∀ W, Below w.heap.size w W → Pcs W W.heap.size A n vs ps) := Lib.hid (fun W hb => hA.up hb)
  have hncm := Lib.hid (And.intro hnc hcm)
  have hl := hA.len
  cases fm
  · clear hA hfm hb1 k1 hP hQ hx hy hLg hZ hnc hcm hl hst hlgr hZr hAp
    go_enter Tryz.func5, Tryz.ntmps5
    go_wp2_with (first
      | (go_at_call 6; refine haw.out.mono ?_; rintro e x1 ⟨rfl, hb⟩; have e1 := (hb.block _ hlt.out).trans hk1.out; have q0 : x1.cell? ⟨w.heap.size, 0, none⟩ = some (.int .u8 (xn : Int)) := (by rw [cells_of e1]; rfl); have q1 : x1.cell? ⟨w.heap.size, 1, none⟩ = some (.int .u8 (yn : Int)) := (by rw [cells_of e1]; rfl); have hB1 := Lib.hid (hb1h.out.trans (hb.mono hb1h.out.size)); clear hb e1)
      | (go_at_call 7; refine (hF.out _ hB1.out).mono ?_; rintro e w2 ⟨rfl, q2⟩; have hB2 := Lib.hid (hB1.out.trans (q2.mono hB1.out.size)); clear q2))
    go_ret
    exact ⟨rfl, hB2.out⟩
  obtain ⟨hfew, h40, hno⟩ := mayM_parts hfm
  have hsm := few_W hfew
  obtain ⟨g1, -, -, -, -⟩ := wrongM_none.1 hno
  obtain ⟨ks, sty, hks, hsty, hpr, hpa, hsl⟩ := print_read hfew (by omega) hno
  have hn12 : n ≤ 12 := by rw [← hl]; exact (fewP_parts hfew).1
  obtain ⟨xs, hxs⟩ : ∃ xs, linesM sty lg ks = xs := ⟨_, rfl⟩
  rw [hxs] at hpr hpa hsl
  have hM : Hid (∀ W, Below w.heap.size w W → Calls Tryz.prog 8 #[.slice A n c, .int .i64 how, .int .i64 (lg : Int)] W fun e w' => PrintA W w' e xs 0) := Lib.hid (fun W hb => by
    have h := H2 A n c vs ps how (lg : Int) W hnc hcm hst hlgr hsm (hA.up hb)
    rwa [hpr, hno] at h)
  obtain ⟨want, hwant⟩ : ∃ want, ks.map (styP sty) = want := ⟨_, rfl⟩
  obtain ⟨st, hstt⟩ : ∃ st : Int, (if cleanB ks = true then 1 else sty) = st := ⟨_, rfl⟩
  rw [hwant, hstt] at hpa
  have hPp : Hid (∀ (A2 : Option Addr) (n2 c2 : Nat) (W : World), TxR W W.heap.size (A2, n2, c2) xs → Calls Tryz.prog 9 #[.slice A2 n2 c2, .int .i64 (lg : Int)] W fun e w' => ParseA W w' e (want, st, 0, 0)) := Lib.hid (fun A2 n2 c2 W hT => by
    rw [← hpa]
    exact H A2 n2 c2 xs (lg : Int) W hlgr hsl hT)
  have hw100 : Hid (want.length ≤ 100) := Lib.hid (by
    rw [← hwant, List.length_map, hks]
    split
    · exact hsm.2.1.1
    · exact hsm.1.1.1)
  obtain ⟨ch, hch⟩ : ∃ ch, choose ps (Z : Int) = ch := ⟨_, rfl⟩
  have hchl : ch.length ≤ 240 := by
    have := choose_few (Z : Int) (fewP_parts hfew).2
    rw [hch] at this
    omega
  have hcw : Hid ((∀ p ∈ ps, p.1 = true → Z ≤ p.2.2.2.length) → choose want (Z : Int) = ch) := Lib.hid (fun h => by
    rw [← hwant, choose_sty sty (by omega), hks, ← hch]
    split
    · exact zeal_choose (by omega) fun p hp hc => by have := h p hp hc; omega
    · rfl)
  have hCh : Hid (choose want (Z : Int) = ch → ∀ (A4 : Option Addr) (n4 c4 : Nat) (vs4 : List PcV) (W : World), n4 ≤ c4 → c4 ≤ maxLen → Pcs W W.heap.size A4 n4 vs4 want → Calls Tryz.prog 16 #[.slice A4 n4 c4, .int .i64 (Z : Int)] W fun e w' => TxsOut W w' e ch) := Lib.hid (fun he A4 n4 c4 vs4 W a1 a2 a3 => by
    have h := H3 A4 n4 c4 vs4 want (Z : Int) W a1 a2 (by have := a3.len; have := hw100.out; omega) hZr (by rw [he]; omega) a3
    rwa [he] at h)
  have hCr : Hid (∀ W, Below w.heap.size w W → Calls Tryz.prog 17 #[.slice A n c, .int .i64 (Z : Int)] W fun e w' => TxsOut W w' e ch) := Lib.hid (fun W hb => by
    have h := rChoose_any A n c vs ps (Z : Int) W (Nat.le_trans hnc hcm) hZr (by rw [hch]; omega) (hA.up hb)
    rwa [hch] at h)
  have hSa := Lib.hid (fun (A1 A2 : Option Addr) (n1 c1 n2 c2 : Nat) (W : World) (h1 : TxR W W.heap.size (A1, n1, c1) ch) (h2 : TxR W W.heap.size (A2, n2, c2) ch) => Same_any A1 A2 n1 n2 c1 c2 W.heap.size W.heap.size ch ch W (Nat.le_trans h1.1 h1.2.1) (Nat.le_trans h2.1 h2.2.1) h1.2.2 h2.2.2)
  rw [decide_eq_true (rfl : ch = ch)] at hSa
  have hsd : Hid (∀ p ∈ ps, p.2.2.2.length ≤ 1000) := Lib.hid (fun p hp => (hsm.1.1.2 p hp).2.1)
  have hlh := Lib.hid hl
  clear hA hfm hb1 k1 hP hQ hx hy hLg hZ hnc hcm hl hst hlgr hZr hfew hsm h40 hno g1 hks hsty hpr hpa hsl hxs hwant hstt hch hchl
  go_enter Tryz.func5, Tryz.ntmps5
  go_wp2_with (first
    | (go_at_call 6; refine haw.out.mono ?_; rintro e x1 ⟨rfl, hb⟩; have e1 := (hb.block _ hlt.out).trans hk1.out; have q0 : x1.cell? ⟨w.heap.size, 0, none⟩ = some (.int .u8 (xn : Int)) := (by rw [cells_of e1]; rfl); have q1 : x1.cell? ⟨w.heap.size, 1, none⟩ = some (.int .u8 (yn : Int)) := (by rw [cells_of e1]; rfl); have hB1 := Lib.hid (hb1h.out.trans (hb.mono hb1h.out.size)); clear hb e1)
    | (go_at_call 7; clear q0 q1; refine (hF.out _ hB1.out).mono ?_; rintro e w2 ⟨rfl, q2⟩; have hB2 := Lib.hid (hB1.out.trans (q2.mono hB1.out.size)); clear q2))
  have hAw := Lib.hid (hAp.out _ hB2.out)
  go_loop [10] (fun s10 => ∃ i : Nat, i ≤ n ∧ s10 = .int .i64 i ∧ Hid (∀ p ∈ ps.take i, p.1 = true → Z ≤ p.2.2.2.length)) (fun s10 => n - (intOf s10).toNat)
  case atStart => exact ⟨0, Nat.zero_le _, rfl, Lib.hid (fun p hp => (nomatch hp))⟩
  case round =>
    obtain ⟨i, hi1, rfl, hT⟩ := hrel
    by_cases hlt2 : i < n
    · obtain ⟨b, o, cf, At, nt, ct, Ab, nb, cb, As, ns, cs, t, bs, ss, hAe, hb, hv, hp, k1, k2, k3, k4, j1, j2, ⟨j31, j32, rr, hrr⟩⟩ := hAw.out.at_ (k := i) hlt2
      subst hAe
      have i1 : (0 : Int) ≤ (i : Int) := by omega
      have i2 : (i : Int) < (n : Int) := by omega
      have hsl := hrr.len
      dsimp only at hsl j31 j32
      have hns : ns ≤ 1000 := by have := hsd.out _ (List.mem_of_getElem? hp); dsimp only at this; omega
      have hnx : Hid ((cf = true → Z ≤ ns) → ∀ p ∈ ps.take (i + 1), p.1 = true → Z ≤ p.2.2.2.length) := Lib.hid (fun h p hpm hc => by
        rw [take_at hp] at hpm
        rcases List.mem_append.1 hpm with hpm | hpm
        · exact hT.out p hpm hc
        · rw [List.mem_singleton.1 hpm] at hc ⊢
          have := h hc
          show Z ≤ ss.length
          omega)
      clear hv hp j1 j2 hsl hrr hT k2 k3
      cases cf
      · have hny := Lib.hid (hnx.out (fun h => (nomatch h)))
        go_wp2
        go_round
        case rel => exact ⟨i + 1, by omega, by go_num, hny⟩
        case measure => simp [intOf]; omega
      · by_cases hzs : Z ≤ ns
        · have hny := Lib.hid (hnx.out (fun _ => hzs))
          go_wp2
          go_round
          case rel => exact ⟨i + 1, by omega, by go_num, hny⟩
          case measure => simp [intOf]; omega
        · clear hnx
          go_wp2
          go_ret
          exact ⟨rfl, hB2.out⟩
    · obtain rfl : i = n := by omega
      have hcw2 := hcw.out (fun p hp hc => hT.out p (by rw [List.take_of_length_le (by rw [hlh.out]; exact Nat.le_refl _)]; exact hp) hc)
      have hCh2 := Lib.hid (hCh.out hcw2)
      clear hcw2 hT
      go_wp2_with (first
        | (go_at_call 8; refine (hM.out _ hB2.out).mono ?_; rintro e w3 ⟨A3, n3, c3, rfl, q1, q2⟩; have hT3 := Lib.hid q1; have hB3 := Lib.hid (hB2.out.trans (q2.mono hB2.out.size)); clear q1 q2)
        | (go_at_call 9; refine (hPp.out _ _ _ _ hT3.out).mono ?_; rintro e w4 ⟨A4, n4, c4, vs4, rfl, q1, q2, q3, q4⟩; have hP4 := Lib.hid (And.intro q1 (And.intro q2 q3)); have hB4 := Lib.hid (hB3.out.trans (q4.mono hB3.out.size)); clear q1 q2 q3 q4)
        | (go_at_call 16; refine (hCh2.out A4 n4 c4 vs4 _ hP4.out.1 hP4.out.2.1 hP4.out.2.2).mono ?_; rintro e w5 ⟨A5, n5, c5, rfl, q1, q2⟩; have hT5 := Lib.hid q1; have hB5 := Lib.hid (hB4.out.trans (q2.mono hB4.out.size)); clear q1 q2)
        | (go_at_call 17; refine (hCr.out _ hB5.out).mono ?_; rintro e w6 ⟨A6, n6, c6, rfl, q1, q2⟩; have hT6 := Lib.hid q1; have hT5b := Lib.hid (hT5.out.up q2); have hB6 := Lib.hid (hB5.out.trans (q2.mono hB5.out.size)); clear q1 q2)
        | (go_at_call 15; refine (hSa.out A5 A6 n5 c5 n6 c6 _ hT5b.out hT6.out).mono ?_; rintro e w7 ⟨rfl, q7, rfl⟩))
      go_ret
      exact ⟨rfl, below_drewN hB6.out q7⟩
end
end Go.Proofs.YtcpopnhnihbofaaGreatDoor
/- Proved here: what comes in as an array of two bytes has two numbers. -/
namespace Go.Proofs.YtcpopnhnihbofaaGreatDoor
open Go.ChangeShapes Go.WideShapes Go.ChangeAt Go.RowKit
open Go.ChangeMaps (open_string shut_string)
set_option linter.unusedVariables false

theorem list2 {α : Type} (l : List α) (h : (⟨l⟩ : Array α).size = 2) : ∃ a b, l = [a, b] := by
  match l, h with
  | [a, b], _ => exact ⟨a, b, rfl⟩

theorem argArr2 {H : Type} {enc : TypeId × Value → H} {P : Program} {W : World} {r : Reach} {base b0 : Nat} {spare : Nat → Bool} {held : Bool} {t e : TypeId} {v : Value} {d : DataW H} {p : List MemPlace}
    (ht : P.underlying t = some (.array 2 e)) (he : P.underlying e = some (.int .u8)) (ct : P.cellsOf t = 2) (ce : P.cellsOf e = 1) (hv : Value.okWide P W r b0 t v) (h : DataW.Trod enc P W base spare held t v d p) :
    ∃ x y : Int, v = .agg #[.int .u8 x, .int .u8 y] ∧ (0 ≤ x ∧ x ≤ 255) ∧ 0 ≤ y ∧ y ≤ 255 := by
  obtain ⟨cs, rfl, hsz, _⟩ : ∃ cs, v = .agg cs ∧ cs.size = P.cellsOf t ∧ Row.okWide P W r b0 t cs := by
    simpa [Value.okWide, ht] using hv
  rw [ct] at hsz
  obtain ⟨l⟩ := cs
  obtain ⟨c0, c1, rfl⟩ := list2 l hsz
  obtain ⟨fuel, hf⟩ := h
  obtain ⟨xs, m, _, _, _, hxl, hel⟩ := DataW.trod_array ht hf
  have h0 := hel 0 (by omega)
  have h1 := hel 1 (by omega)
  rw [ce] at h0 h1
  simp [Value.cells] at h0 h1
  have g0 : ∃ z, xs[0]? = some z := ⟨xs[0], List.getElem?_eq_getElem (by omega)⟩
  have g1 : ∃ z, xs[1]? = some z := ⟨xs[1], List.getElem?_eq_getElem (by omega)⟩
  obtain ⟨z0, g0⟩ := g0
  obtain ⟨z1, g1⟩ := g1
  simp [g0] at h0
  simp [g1] at h1
  obtain ⟨x0, e0, _, w0⟩ := DataW.trod_int he h0
  obtain ⟨x1, e1, _, w1⟩ := DataW.trod_int he h1
  simp at e0 e1
  subst e0; subst e1
  have := bounds_u8 w0
  have := bounds_u8 w1
  exact ⟨x0, x1, rfl, by omega, by omega⟩
end Go.Proofs.YtcpopnhnihbofaaGreatDoor
/- Proved here: the contract of the landed package pick's sideOf. -/
namespace Go.Proofs.YtcpopnhnihbofaaGreatDoor
open Go.RowKit
set_option linter.unusedVariables false

set_option maxHeartbeats 1000000 in
/-- The side of a number. -/
theorem sideOf_yes (A : Option Addr) (n c k : Nat) (rows : List Slc) (sides : List Txs) (B : Nat) (w : World) (hn : n ≤ maxLen) (hk : k < n) (hA : RowsT w B A n rows sides) :
    Calls Tryz.prog 36 #[.slice A n c, .int .i64 ((k : Int) + 1)] w fun e w' => (∃ A1 n1 c1 ss, e = .returned (.tuple #[.slice A1 n1 c1, .bool true]) ∧ sides[k]? = some ss ∧ TxR w B (A1, n1, c1) ss) ∧ w' = w := by
  obtain ⟨b, o, A1, n1, c1, ss, rfl, hb, hss, -, hc, hnc, hcm, hS⟩ := hA.at_ hk
  unfold maxLen at hn
  have f1 : decide ((k : Int) + 1 < 1) = false := decide_eq_false (by omega)
  have f2 : decide ((n : Int) < (k : Int) + 1) = false := decide_eq_false (by omega)
  have i1 : (0 : Int) ≤ (k : Int) := by omega
  have i2 : (k : Int) < (n : Int) := by omega
  have hfin := Lib.hid (And.intro hss (show TxR w B (A1, n1, c1) ss from ⟨hnc, hcm, hS⟩))
  clear hA hss hnc hcm hS
  go_enter Tryz.func36, Tryz.ntmps36
  go_wp2
  go_ret2
  exact ⟨⟨A1, n1, c1, ss, rfl, hfin.out.1, hfin.out.2⟩, rfl⟩
set_option maxHeartbeats 1000000 in
theorem sideOf_no (A : Option Addr) (n c : Nat) (z : Int) (w : World) (hn : n ≤ maxLen) (hz : ¬ (1 ≤ z ∧ z ≤ n)) :
    Calls Tryz.prog 36 #[.slice A n c, .int .i64 z] w fun e w' => e = .returned (.tuple #[.slice none 0 0, .bool false]) ∧ w' = w := by
  unfold maxLen at hn
  by_cases h1 : z < 1
  · have f1 : decide (z < 1) = true := decide_eq_true h1
    clear hz
    go_enter Tryz.func36, Tryz.ntmps36
    go_wp2
    go_ret2
    exact ⟨rfl, rfl⟩
  · have h2 : (n : Int) < z := by omega
    have f1 : decide (z < 1) = false := decide_eq_false h1
    have f2 : decide ((n : Int) < z) = true := decide_eq_true h2
    clear hz
    go_enter Tryz.func36, Tryz.ntmps36
    go_wp2
    go_ret2
    exact ⟨rfl, rfl⟩
end Go.Proofs.YtcpopnhnihbofaaGreatDoor
/- Proved here: the contract of the landed pick.Choose. -/
namespace Go.Proofs.YtcpopnhnihbofaaGreatDoor
open Go.RowKit
set_option linter.unusedVariables false

theorem chosen_yes {z : Int} {k : Nat} (hz : z = (k : Int) + 1) (t bs : Txs) {ss : List Txs} {x : Txs} (h : ss[k]? = some x) : chosen z (true, t, bs, ss) = x := by
  subst hz
  unfold chosen
  simp only [if_true]
  rw [if_pos (by omega), show ((k : Int) + 1 - 1).toNat = k by omega, h]
  rfl
theorem chosen_none {z : Int} (t bs : Txs) {ss : List Txs} (h : ¬ (1 ≤ z ∧ z ≤ ss.length)) : chosen z (true, t, bs, ss) = [] := by
  unfold chosen
  simp only [if_true]
  split
  · rw [List.getElem?_eq_none (by omega)]
    rfl
  · rfl

set_option maxRecDepth 100000 in
set_option maxHeartbeats 4000000 in
theorem choose_ok : PickChooseOk := by
  intro A n c vs ps z w hnc hcm hn hz hsum hA
  have hl := hA.len
  obtain ⟨i0, hi, hzz⟩ := Option.map_eq_some_iff.1 infoStr
  simp only [Prod.mk.injEq] at hzz
  obtain ⟨hz0, hz1, hz2⟩ := hzz
  have hAh := Lib.hid hA
  have hsumh := Lib.hid hsum
  have hst : Hid (TxO w w (.slice none 0 0) (choose (ps.take 0) z)) := Lib.hid ⟨World.ownsRow_nil _ _ _ _, Below.refl _ _⟩
  clear hA hsum hz
  go_enter Tryz.func16, Tryz.ntmps16
  go_wp2
  go_loopw [5, 7, 8, 9, 12] (fun s5 _ _ _ s12 wr => ∃ (i : Nat) (v : Value), i ≤ n ∧ v = s5 ∧ s12 = .int .i64 i ∧ Hid (TxO w wr v (choose (ps.take i) z))) (fun _ _ _ _ s12 _ => n - (intOf s12).toNat)
  case atStart => exact ⟨0, _, Nat.zero_le _, rfl, rfl, hst⟩
  case round =>
    obtain ⟨i, v, hin, rfl, rfl, hT⟩ := hrel
    obtain ⟨wo, rfl⟩ : ∃ wo : World, wo = wr := ⟨_, rfl⟩
    clear hst
    by_cases hlt : i < n
    · obtain ⟨b, o, cf, At, nt, ct, Ab, nb, cb, As, ns, cs, t, bs, ss, rfl, hb, hv, hp, k1, k2, k3, k4, ⟨j1, j2, j3⟩, -, ⟨j4, j5, rr, j6⟩⟩ := (hAh.out.below hT.out.below).at_ (k := i) hlt
      have i1 : (0 : Int) ≤ (i : Int) := by omega
      have i2 : (i : Int) < (n : Int) := by omega
      have hsn := Lib.hid (choose_snoc z hp)
      have hpre1 := choose_pre ps z (i + 1)
      rw [choose_snoc z hp, List.length_append] at hpre1
      have hbe := hT.out.below
      have hsz := hbe.size
      have hb2 : b < wo.heap.size := by omega
      dsimp only at j1 j2 j3 j4 j5 j6
      have hown : Hid (∀ o : Obj, (wo.alloc o).ownsRow w.heap.size 9 1 v (choose (ps.take i) z).length ((choose (ps.take i) z).map fun s => .string (str s)) ∧ w.heap.size ≤ (wo.alloc o).heap.size) := Lib.hid (fun o => ⟨hT.out.own.alloc o, by simp; omega⟩)
      have hput : Hid (∀ (o : Obj) (ys : Txs) (m : Nat) (v' : Value) (w2 : World), ys.length = m → w2.ownsRow w.heap.size 9 1 v' ((choose (ps.take i) z).length + m) (((choose (ps.take i) z).map fun s => .string (str s)) ++ ys.map fun s => .string (str s)) → (wo.alloc o).grownBy w2 v.ownBlock → TxO w w2 v' (choose (ps.take i) z ++ ys)) :=
        Lib.hid (fun o ys m v' w2 h1 h2 h3 => (show TxO w (wo.alloc o) v (choose (ps.take i) z) from ⟨hT.out.own.alloc o, hbe.alloc hsz o⟩).put h1 h2 h3)
      cases cf
      · have hlt2 := j3.len
        have hch : chosen z (false, t, bs, ss) = t := rfl
        rw [hch] at hpre1
        have hsn2 : Hid (choose (ps.take (i + 1)) z = choose (ps.take i) z ++ t) := hsn
        have hle : Hid ((choose (ps.take i) z).length + nt ≤ maxLen ∧ ((choose (ps.take i) z).length + nt) * 16 ≤ 140737488355328) := Lib.hid (by have := hsumh.out; unfold maxLen; omega)
        have hlth := Lib.hid hlt2
        have hrd : Hid (∀ o : Obj, Strs (wo.alloc o) w.heap.size At nt t) := Lib.hid (fun o => Reads.keep j3 fun p hp => World.cell?_alloc_lt _ _ p (by omega))
        clear hp hv hpre1 hch hsn j3 j6 hbe
        go_wp2_with (at_builtin; refine wpList_append_reads _ rfl _ _ 25 rfl w.heap.size 9 i0 (.string ByteArray.empty) 16 Tryz.underlying25 hi hz0 hz1 hz2 rfl v (choose (ps.take i) z).length _ rfl (hown.out _).1 w.heap.size At nt ct _ rfl (hrd.out _) (strs_one _) hle.out.1 hle.out.2 (hown.out _).2 ?_; intro v' w2 hown2 hg2; have hfin := Lib.hid (hput.out _ _ _ _ _ hlth.out hown2 hg2))
        go_roundw
        case rel => exact ⟨i + 1, _, by omega, rfl, by go_num, Lib.hid (by rw [hsn2.out]; exact hfin.out)⟩
        case measure => simp [intOf]; omega
      · have hssl := j6.len
        have hRr : Hid (∀ o : Obj, RowsT (wo.alloc o) w.heap.size As ns rr ss) := Lib.hid (fun o => j6.keep fun p hp => World.cell?_alloc_lt _ _ p (by omega))
        have hnb : ns ≤ maxLen := by omega
        by_cases hzk : 1 ≤ z ∧ z ≤ ns
        · obtain ⟨k, hk⟩ : ∃ k : Nat, z = (k : Int) + 1 := ⟨(z - 1).toNat, by omega⟩
          have hkn : k < ns := by omega
          have hSd : Hid (∀ o : Obj, Calls Tryz.prog 36 #[.slice As ns cs, .int .i64 z] (wo.alloc o) fun e w' => (∃ A1 n1 c1 x, e = .returned (.tuple #[.slice A1 n1 c1, .bool true]) ∧ chosen z (true, t, bs, ss) = x ∧ TxR (wo.alloc o) w.heap.size (A1, n1, c1) x) ∧ w' = wo.alloc o) := Lib.hid (fun o => by
            rw [hk]
            refine (sideOf_yes As ns cs k rr ss w.heap.size _ hnb hkn (hRr.out o)).mono ?_
            rintro e w' ⟨⟨A1, n1, c1, x, h1, h2, h3⟩, h4⟩
            exact ⟨⟨A1, n1, c1, x, h1, chosen_yes rfl t bs h2, h3⟩, h4⟩)
          have hpre1h := Lib.hid hpre1
          clear hp hv hpre1 j6 hzk hk hkn hssl hbe
          go_wp2_with (first
            | (go_at_call 36; refine (hSd.out _).mono ?_; rintro e w1 ⟨⟨A1, n1, c1, x, rfl, hx, hTx⟩, rfl⟩; have hxh := Lib.hid hx; have hTxh := Lib.hid hTx; have hle : Hid ((choose (ps.take i) z).length + n1 ≤ maxLen ∧ ((choose (ps.take i) z).length + n1) * 16 ≤ 140737488355328) := Lib.hid (by have h1 := hsumh.out; have h2 := hpre1h.out; have h3 := hTx.2.2.len; rw [hx] at h2; unfold maxLen; dsimp only at h3; omega); clear hx hTx)
            | (at_builtin; refine wpList_append_reads _ rfl _ _ 25 rfl w.heap.size 9 i0 (.string ByteArray.empty) 16 Tryz.underlying25 hi hz0 hz1 hz2 rfl v (choose (ps.take i) z).length _ rfl (hown.out _).1 w.heap.size A1 n1 c1 _ rfl hTxh.out.2.2 (strs_one _) hle.out.1 hle.out.2 (hown.out _).2 ?_; intro v' w2 hown2 hg2; have hfin := Lib.hid (hput.out _ _ _ _ _ hTxh.out.2.2.len hown2 hg2)))
          go_roundw
          case rel => exact ⟨i + 1, _, by omega, rfl, by go_num, Lib.hid (by rw [hsn.out, hxh.out]; exact hfin.out)⟩
          case measure => simp [intOf]; omega
        · have hno : Hid (chosen z (true, t, bs, ss) = []) := Lib.hid (chosen_none t bs (by rw [hssl]; exact hzk))
          have hSd : Hid (∀ o : Obj, Calls Tryz.prog 36 #[.slice As ns cs, .int .i64 z] (wo.alloc o) fun e w' => e = .returned (.tuple #[.slice none 0 0, .bool false]) ∧ w' = wo.alloc o) := Lib.hid (fun o => sideOf_no As ns cs z _ hnb hzk)
          have hfin : Hid (∀ o : Obj, TxO w (wo.alloc o) v (choose (ps.take i) z)) := Lib.hid (fun o => ⟨hT.out.own.alloc o, hbe.alloc hsz o⟩)
          clear hp hv hpre1 j6 hzk hssl hbe
          go_wp2_with (go_at_call 36; refine (hSd.out _).mono ?_; rintro e w1 ⟨rfl, rfl⟩)
          go_roundw
          case rel => exact ⟨i + 1, v, by omega, rfl, by go_num, Lib.hid (by rw [hsn.out, hno.out, List.append_nil]; exact hfin.out _)⟩
          case measure => simp [intOf]; omega
    · obtain rfl : i = n := by omega
      go_wp2
      go_ret
      have ht : ps.take i = ps := List.take_of_length_le (by omega)
      have := hT.out.out
      rw [ht] at this
      exact this
end Go.Proofs.YtcpopnhnihbofaaGreatDoor
