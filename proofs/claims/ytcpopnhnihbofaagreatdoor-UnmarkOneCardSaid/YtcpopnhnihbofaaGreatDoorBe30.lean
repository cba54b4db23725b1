/- Proved here: texts joined: SzRun, UmRead. -/
import Derived.Test.YtcpopnhnihbofaaGreatDoorBe29
import Derived.Deep.RegionHeld3
import Derived.Shelf.Abstract
/- Proved here: the contract of the landed package size's Run. -/
namespace Go.Proofs.YtcpopnhnihbofaaGreatDoor
open Go.RowKit
set_option linter.unusedVariables false
set_option maxRecDepth 100000

/-- How far the run goes that has come to pos. -/
def RunTo (t : Tx) (pos : Nat) : Prop := 0 < pos → ∃ c, signB c = true ∧ ∀ i, i < pos → t[i]? = some c
theorem RunTo.other {t : Tx} {pos : Nat} {x : UInt8} (h : RunTo t pos) (hx : t[pos]? = some x) (hne : (0 < pos → ∀ c, t[0]? = some c → x ≠ c) ∧ (pos = 0 → signB x = false)) : runN t = pos := by
  have hl := (List.getElem?_eq_some_iff.1 hx).1
  rcases Nat.eq_zero_or_pos pos with h0 | h0
  · subst h0
    exact run_none fun c hc => by rw [hx] at hc; injection hc with hc; rw [← hc]; exact hne.2 rfl
  · obtain ⟨c, hc, ha⟩ := h h0
    refine run_at hc h0 (by omega) ha (.inr fun e => ?_)
    rw [hx] at e
    injection e with e
    exact hne.1 h0 c (ha 0 h0) e
theorem RunTo.plain {t : Tx} {pos : Nat} {x : UInt8} (h : RunTo t pos) (hx : t[pos]? = some x) (hs : signB x = false) : runN t = pos := by
  refine h.other hx ⟨fun h0 c hc e => ?_, fun _ => hs⟩
  obtain ⟨c', hc', ha⟩ := h h0
  rw [ha 0 h0] at hc
  injection hc with hc
  rw [e, ← hc, hc'] at hs
  cases hs
theorem RunTo.next {t : Tx} {pos : Nat} {x : UInt8} (h : RunTo t pos) (hx : t[pos]? = some x) (hs : signB x = true) (he : t[0]? = some x) : RunTo t (pos + 1) := fun _ => ⟨x, hs, fun i hi => by
  rcases Nat.lt_or_ge i pos with h1 | h1
  · obtain ⟨c, hc, ha⟩ := h (by omega)
    have := ha 0 (by omega)
    rw [he] at this
    injection this with this
    rw [ha i h1, this]
  · obtain rfl : i = pos := by omega
    exact hx⟩
theorem RunTo.all {t : Tx} (h : RunTo t t.length) : runN t = t.length := by
  rcases Nat.eq_zero_or_pos t.length with h0 | h0
  · have : t = [] := List.eq_nil_of_length_eq_zero h0
    subst this
    rfl
  · obtain ⟨c, hc, ha⟩ := h h0
    exact run_at hc h0 (Nat.le_refl _) ha (.inl rfl)
theorem sign_low {c : UInt8} (h : 128 ≤ c.toNat) : signB c = false := by rw [← rune_sign]; exact rune_high (by omega)

set_option maxHeartbeats 2000000 in
theorem run_bytes (s : ByteArray) (w : World) (hs : s.size ≤ 1000000) :
    Calls Tryz.prog 56 #[.string s] w fun e w' => e = .returned (.int .i64 (runN s.data.toList)) ∧ Below w.heap.size w w' := by
  have hsz : Hid (s.data.toList.length = s.size) := Lib.hid (Lib.size_eq s).symm
  have hSl : Hid (∀ (c : UInt8) (W : World), c.toNat < 128 → Calls Tryz.prog 85 #[.string { data := #[60, 124, 61, 62] }, .int .i32 (c.toNat : Int)] W fun e w' => e = .returned (.bool (signB c)) ∧ w' = W) := Lib.hid (fun c W h => isSign_low c W h)
  have hSh : Hid (∀ (r : Int) (W : World), 128 ≤ r → Calls Tryz.prog 85 #[.string { data := #[60, 124, 61, 62] }, .int .i32 r] W fun e w' => e = .returned (.bool false) ∧ Below W.heap.size W w') := Lib.hid (fun r W h => isSign_high r W h)
  go_enter Tryz.func56, Tryz.ntmps56
  go_wp2
  go_loopw [3, 4] (fun _ _ wr => ∃ pos : Nat, pos ≤ s.size ∧ wr = w.iter s pos ∧ Hid (RunTo s.data.toList pos)) (fun _ _ wr => s.size - wr.iterPos w.heap.size)
  case atStart => exact ⟨0, Nat.zero_le _, rfl, Lib.hid (fun h => absurd h (by omega))⟩
  case round =>
    obtain ⟨pos, hpos, rfl, hq⟩ := hrel
    by_cases hp : pos < s.size
    · have hb := Lib.hid (byte_at s pos hp)
      by_cases ha : (s[pos]'hp).toNat < 128
      · have hnx : ∀ ty, (Instr.next (.pointer (some ⟨w.heap.size, 0, none⟩)) true ty).run Tryz.prog (w.iter s pos) = _ := fun ty => run_next_ascii w s pos ty hp ha
        have h0 : 0 < s.size := by omega
        obtain ⟨sb, hsb⟩ : ∃ sb, signB s[pos] = sb := ⟨_, rfl⟩
        have hS := Lib.hid (fun W => hSl.out (s[pos]'hp) W ha)
        rw [hsb] at hS
        have hsbh := Lib.hid hsb
        have hb0 := Lib.hid (byte_at s 0 h0)
        clear hsb
        cases sb
        · have hfin := Lib.hid (hq.out.plain hb.out hsbh.out)
          go_wp2_with (go_at_call 85; refine (hS.out _).mono ?_; rintro e w1 ⟨rfl, hw1⟩; have hB1 : Hid (Below w.heap.size w w1) := Lib.hid (by rw [hw1]; exact below_iter _ _ _); clear hw1)
          go_ret
          exact ⟨ret_int (by rw [hfin.out]), hB1.out⟩
        · obtain ⟨e, he⟩ : ∃ e, ((((s[pos]'hp).toNat : Nat) : Int) == (((s[0]'h0).toNat : Nat) : Int)) = e := ⟨_, rfl⟩
          have hne : ((((s[pos]'hp).toNat : Nat) : Int) != (((s[0]'h0).toNat : Nat) : Int)) = !e := by rw [← he]; rfl
          have heh : Hid (s[pos]'hp = s[0]'h0 ↔ e = true) := Lib.hid (by
            rw [← he, beq_iff_eq]
            exact ⟨fun h => by rw [h], fun h => UInt8.toNat_inj.1 (by exact_mod_cast h)⟩)
          have i0 : (0 : Int) ≤ (((s[pos]'hp).toNat : Nat) : Int) := by omega
          have i1 : (((s[pos]'hp).toNat : Nat) : Int) ≤ 127 := by omega
          have hb255 : (s[0]'h0).toNat < 256 := UInt8.toNat_lt _
          have hw32 : wrap32 (((s[0]'h0).toNat : Nat) : Int) = (((s[0]'h0).toNat : Nat) : Int) := IntWalk.wrap32_in _ (by omega)
          clear hb255
          clear he
          cases e
          · have hfin : Hid (runN s.data.toList = pos) := Lib.hid (by
              refine hq.out.other hb.out ⟨fun _ c hc e => ?_, fun h => ?_⟩
              · rw [hb0.out] at hc
                injection hc with hc
                have := heh.out.1 (by rw [e, hc])
                cases this
              · subst h
                have := heh.out.1 rfl
                cases this)
            go_wp2_with (go_at_call 85; refine (hS.out _).mono ?_; rintro e w1 ⟨rfl, hw1⟩; have hB1 : Hid (Below w.heap.size w w1) := Lib.hid (by rw [hw1]; exact below_iter _ _ _); clear hw1)
            go_ret
            exact ⟨ret_int (by rw [hfin.out]), hB1.out⟩
          · have hnext := Lib.hid (hq.out.next hb.out hsbh.out (by rw [hb0.out, heh.out.2 rfl]))
            go_wp2_with (go_at_call 85; refine (hS.out _).mono ?_; rintro e w1 ⟨rfl, hw1⟩; have hw1h := Lib.hid hw1; clear hw1)
            go_roundw
            case rel => exact ⟨pos + 1, by omega, hw1h.out, hnext⟩
            case measure => rw [hw1h.out]; simp; omega
      · have hhi := decode_high s pos hp (by omega)
        have hnx : ∀ ty, (Instr.next (.pointer (some ⟨w.heap.size, 0, none⟩)) true ty).run Tryz.prog (w.iter s pos) = _ := fun ty => run_next_any w s pos ty hp
        obtain ⟨r, hr⟩ : ∃ r, (((Utf8.decode s pos).1 : Nat) : Int) = r := ⟨_, rfl⟩
        have hS := Lib.hid (fun W => hSh.out r W (by omega))
        have hfin := Lib.hid (hq.out.plain hb.out (sign_low (by omega)))
        obtain ⟨np, hnp⟩ : ∃ np, pos + (Utf8.decode s pos).2 = np := ⟨_, rfl⟩
        simp only [hr, hnp] at hnx
        clear hhi
        go_wp2_with (go_at_call 85; refine (hS.out _).mono ?_; rintro e w1 ⟨rfl, hw1⟩; have hB1 : Hid (Below w.heap.size w w1) := Lib.hid ((below_iter _ _ _).trans (hw1.mono (below_iter w s np).size)); clear hw1)
        go_ret
        exact ⟨ret_int (by rw [hfin.out]), hB1.out⟩
    · have hnx : ∀ ty, (Instr.next (.pointer (some ⟨w.heap.size, 0, none⟩)) true ty).run Tryz.prog (w.iter s pos) = _ := fun ty => run_next_end w s pos ty hp
      obtain rfl : pos = s.size := by omega
      have hfin : Hid (runN s.data.toList = s.size) := Lib.hid (by
        have h := hq.out
        rw [← hsz.out] at h ⊢
        exact h.all)
      go_wp2
      go_ret
      exact ⟨ret_int (by rw [hfin.out]), below_iter _ _ _⟩
theorem run_ok : SizeRunOk := fun t w ht => by
  have := run_bytes (str t) w (by rw [str_size]; exact ht)
  rwa [str_data] at this
end Go.Proofs.YtcpopnhnihbofaaGreatDoor
/- Proved here: the landed reader's read. -/
namespace Go.Proofs.YtcpopnhnihbofaaGreatDoor
open Go.RowKit
set_option linter.unusedVariables false
set_option maxRecDepth 100000

/-- What a mark does, by what stands behind its signs. -/
def takeC (t told : Tx) (s : MSt) : Option MSt := match s.conf with
  | none => if isC t told 60 [32, 49] = true then some ⟨flushM s.out s.cur, [], s.style, some (false, [], [])⟩ else none
  | some (isB, b, ds) => markC (isC t told) s isB b ds
theorem readC_put {long : Nat} {s : MSt} {t : Tx} (h : runN t < long) : readC long s t = some ⟨s.out, s.cur ++ [t], s.style, s.conf⟩ := by unfold readC; rw [if_pos h]
theorem readC_mark {long : Nat} {s : MSt} {t : Tx} (h : ¬ runN t < long) : readC long s t = if ((t.drop long).head? = some 33 ∧ s.conf.isSome = true) then (openT true s.cur).bind fun q => takeC t (t.drop long).tail ⟨s.out, q, s.style, s.conf⟩ else takeC t (t.drop long) s := by
  unfold readC takeC
  rw [if_neg h]
  obtain ⟨out, cur, style, conf⟩ := s
  cases conf with
  | none => simp
  | some x =>
    obtain ⟨isB, b, ds⟩ := x
    show (if (t.drop long).head? = some 33 then (openT true cur).bind fun q => markC (isC t (t.drop long).tail) ⟨out, q, style, some (isB, b, ds)⟩ isB b ds else markC (isC t (t.drop long)) ⟨out, cur, style, some (isB, b, ds)⟩ isB b ds) = _
    by_cases h33 : (t.drop long).head? = some 33
    · rw [if_pos h33, if_pos ⟨h33, rfl⟩]
    · rw [if_neg h33, if_neg (fun h => h33 h.1)]
theorem nxK_first {isB : Bool} {b : Txs} {ds : List Txs} (h : firstM isB ds = true) : nxK (some (isB, b, ds)) = 55 := if_pos h
theorem nxK_other {isB : Bool} {b : Txs} {ds : List Txs} (h : firstM isB ds = false) : nxK (some (isB, b, ds)) = 84 := if_neg (by rw [h]; decide)
theorem slice_str_from (t : Tx) (k : Nat) (hk : k ≤ t.length) (W : World) : (Instr.slice 9 (.string (str t)) (some (.int .i64 (k : Int))) none none).run Tryz.prog W = .ok (.string (str (t.drop k))) W := by
  rw [run_slice_string_l (P := Tryz.prog) W 9 (str t) Tryz.underlying9 .i64 (k : Int) (by omega) (by rw [str_size]; omega), Int.toNat_natCast]
  congr 2
  apply ByteArray.ext
  simp [str, ByteArray.extract, ByteArray.copySlice]
  show List.take (t.length - k) _ = _
  rw [List.take_of_length_le (by rw [List.length_drop]; exact Nat.le_refl _)]

section
variable {w wr w1 : World} {L long K : Nat} {s : MSt} {t told : Tx} {Bt Bd : Nat}
/-- The next mark is taken, by the function that is kept. -/
theorem take_any (h : RdX w wr L long K s) (hK : K ≤ 100000000) (ht : Boxed wr Bt 9 (.string (str t))) (hd : Boxed wr Bd 9 (.string (str told))) :
    Calls Tryz.prog (nxK s.conf) #[.pointer (some ⟨L, 0, none⟩), clR Bt Bd] wr fun e w' => ∃ ok, e = .returned (.bool ok) ∧ Below w.heap.size w w' ∧ TookX w L long (K + 1) (takeC t told s) ok w' := by
  cases hc : s.conf with
  | none =>
    have := take_out h hc ht hd (told := told)
    unfold takeC
    rw [hc]
    exact this
  | some x =>
    obtain ⟨isB, b, ds⟩ := x
    have e : takeC t told s = markC (isC t told) s isB b ds := by unfold takeC; rw [hc]
    rw [e]
    cases hf : firstM isB ds with
    | true =>
      have := take_side h hK hc hf ht hd (told := told)
      rw [nxK_first hf]
      exact this
    | false =>
      have := take_oth h hK hc hf ht hd (told := told)
      rw [nxK_other hf]
      exact this
theorem nx_enters (c : Option (Bool × Txs × List Txs)) : ∀ args w, (callFunc (nxK c) args).run Tryz.prog w = .ok (.enter (nxK c) args) w := by
  cases c with
  | none => exact enters_of Tryz.func28 (by kernel_rfl) rfl
  | some x =>
    obtain ⟨isB, b, ds⟩ := x
    cases hf : firstM isB ds with
    | true => rw [nxK_first hf]; exact enters_of Tryz.func55 (by kernel_rfl) rfl
    | false => rw [nxK_other hf]; exact enters_of Tryz.func84 (by kernel_rfl) rfl
theorem RdX.cells (h : RdX w wr L long K s) : wr.cell? ⟨L, 0, none⟩ = some (.int .i64 (long : Int)) ∧ wr.cell? ⟨L, 4, none⟩ = some (mvR (nxK s.conf) L) ∧ ∃ A n c, wr.cell? ⟨L, 2, none⟩ = some (.slice A n c) ∧ decide (0 < n) = s.conf.isSome := by
  obtain ⟨out, cur, style, conf⟩ := s
  obtain ⟨⟨vp, vq, u, qs, ps, tx, hR, hq, hl, -⟩, -⟩ := h
  dsimp only at hR hq hl
  refine ⟨hR.cells.1, hR.cells.2.2.2.2, ?_⟩
  cases conf with
  | none =>
    obtain ⟨rfl, -⟩ := hl
    obtain ⟨A, c, rfl⟩ := hR.no_parts
    exact ⟨A, 0, c, hR.cells.2.2.1, rfl⟩
  | some x =>
    obtain ⟨A, c, rfl, -⟩ := own_slice hR.qown
    exact ⟨A, _, c, hR.cells.2.2.1, by simp [nB]⟩
theorem RdX.lt (h : RdX w wr L long K s) : L < wr.heap.size := by
  obtain ⟨⟨vp, vq, u, qs, ps, tx, hR, -⟩, -⟩ := h
  exact hR.lt

set_option maxHeartbeats 16000000 in
theorem read_any (h : RdX w wr L long K s) (hK : K ≤ 50000000) (h1 : 1 ≤ long) (h4 : long ≤ 4096) (ht : t.length ≤ 1000000) (hl : s.conf.isSome = true → ∀ x ∈ s.cur, lnB x = true) (hs : ∀ x ∈ s.cur, x.length ≤ 1000000) :
    Calls Tryz.prog 31 #[.pointer (some ⟨L, 0, none⟩), .string (str t)] wr fun e w' => ∃ ok, e = .returned (.bool ok) ∧ Below w.heap.size w w' ∧ TookX w L long (K + 1) (readC long s t) ok w' := by
  obtain ⟨T, hT⟩ : ∃ T, str t = T := ⟨_, rfl⟩
  rw [hT]
  obtain ⟨W1, hW1⟩ : ∃ W1, W1 = wr.alloc (.cells #[.string T] 9) := ⟨_, rfl⟩
  have hB1 : Below wr.heap.size wr W1 := by rw [hW1]; exact below_alloc (Below.refl _ _) _
  have hBt : Boxed W1 wr.heap.size 9 (.string T) := by rw [hW1]; exact one_a wr _
  have hX1 := h.up hB1
  have hS : Hid (∀ W, Below W1.heap.size W1 W → W.cell? ⟨wr.heap.size, 0, none⟩ = some (.string T) ∧ W.cell? ⟨L, 0, none⟩ = some (.int .i64 (long : Int))) := Lib.hid (fun W hW => ⟨(show Boxed W wr.heap.size 9 (.string T) from (hW.block _ hBt.lt).trans hBt).cell, (hX1.up hW).cells.1⟩)
  have hRun : Hid (∀ W, Below W1.heap.size W1 W → Calls Tryz.prog 56 #[.string T] W fun e w' => e = .returned (.int .i64 (runN t)) ∧ Below W1.heap.size W1 w') := Lib.hid (fun W hW => by
    rw [← hT]
    exact (run_ok t W ht).mono fun e w' h => ⟨h.1, hW.trans (h.2.mono hW.size)⟩)
  have hPut : Hid (∀ W, Below W1.heap.size W1 W → Calls Tryz.prog 57 #[.pointer (some ⟨L, 0, none⟩), .string T] W fun e w' => e = .returned (.tuple #[]) ∧ RdX w w' L long (K + 1) ⟨s.out, s.cur ++ [t], s.style, s.conf⟩) := Lib.hid (fun W hW => by
    rw [← hT]
    exact put_anyR t (hX1.up hW) (by omega))
  have hx0 := (hS.out W1 (Below.refl _ _)).1
  have hl0 := (hS.out W1 (Below.refl _ _)).2
  have hrefl := Below.refl W1.heap.size W1
  have hW1h := Lib.hid hW1
  have hTh := Lib.hid hT
  have hh := Lib.hid h
  have hBth := Lib.hid hBt
  have hX1h := Lib.hid hX1
  have hB1h := Lib.hid hB1
  have hln := Lib.hid hl
  have hsz := Lib.hid hs
  have hKh := Lib.hid (And.intro hK (And.intro h1 (And.intro h4 ht)))
  have hLlt := h.lt
  by_cases hr : runN t < long
  · have hrC := Lib.hid (readC_put (s := s) hr)
    have hri : ((runN t : Nat) : Int) < (long : Int) := by omega
    obtain ⟨rn, hrn⟩ : ∃ rn, runN t = rn := ⟨_, rfl⟩
    rw [hrn] at hri hRun
    obtain ⟨RC, hRC⟩ : ∃ RC, readC long s t = RC := ⟨_, rfl⟩
    have hok : Hid (∀ w', RdX w w' L long (K + 1) ⟨s.out, s.cur ++ [t], s.style, s.conf⟩ → Below w.heap.size w w' ∧ TookX w L long (K + 1) RC true w') := Lib.hid (fun w' h => ⟨h.below, by rw [← hRC, hrC.out]; exact TookX.some h⟩)
    rw [hRC]
    clear h hT hW1 hB1 hBt hX1 hl hs hK h1 h4 ht hr hrn hRC hLlt
    go_enter Tryz.func31, Tryz.ntmps31
    go_upto_region 1 with fail
    rw [← hW1h.out]
    go_region_held3 (fun wx : World => wx.cell? ⟨wr.heap.size, 0, none⟩ = some (.string T) ∧ wx.cell? ⟨L, 0, none⟩ = some (.int .i64 (long : Int)))
      ((first | exact hst | (refine hS.out _ ?_; repeat (first | assumption | refine below_drew ?_ | refine below_alloc ?_ _))))
      ((first
        | (go_at_call 56; refine (hRun.out _ ?_).mono ?_; (repeat (first | assumption | refine below_drew ?_ | refine below_alloc ?_ _)); rintro e w2 ⟨rfl, hb2⟩; have hst := hS.out w2 hb2)))
    have hbh := Lib.hid hb2
    have y0 := hst.1
    clear hst
    go_wp2_with (go_at_call 57; refine (hPut.out _ hbh.out).mono ?_; rintro e w3 ⟨rfl, hX⟩; have hXh := Lib.hid hX; clear hX)
    go_ret
    exact ⟨_, rfl, hok.out _ hXh.out⟩
  · have hrC := Lib.hid (readC_mark (s := s) hr)
    have hri : ¬ ((runN t : Nat) : Int) < (long : Int) := by omega
    have hlen : long ≤ t.length := by have := run_le t; omega
    obtain ⟨rn, hrn⟩ : ∃ rn, runN t = rn := ⟨_, rfl⟩
    rw [hrn] at hri hRun
    obtain ⟨td, htd⟩ : ∃ td, t.drop long = td := ⟨_, rfl⟩
    obtain ⟨D, hD⟩ : ∃ D, str td = D := ⟨_, rfl⟩
    have hsl : ∀ W, (Instr.slice 9 (.string T) (some (.int .i64 (long : Int))) none none).run Tryz.prog W = .ok (.string D) W := fun W => by
      rw [← hT, ← hD, ← htd]
      exact slice_str_from t long hlen W
    obtain ⟨RC, hRC⟩ : ∃ RC, readC long s t = RC := ⟨_, rfl⟩
    rw [hRC]
    rw [hRC, htd] at hrC
    have htdh := Lib.hid (And.intro htd hD)
    clear h hT hW1 hB1 hBt hX1 hl hs hK h1 h4 ht hr hrn hRC hLlt hPut htd hD hlen
    go_enter Tryz.func31, Tryz.ntmps31
    go_upto_region 1 with fail
    rw [← hW1h.out]
    go_region_held3 (fun wx : World => wx.cell? ⟨wr.heap.size, 0, none⟩ = some (.string T) ∧ wx.cell? ⟨L, 0, none⟩ = some (.int .i64 (long : Int)))
      ((first | exact hst | (refine hS.out _ ?_; repeat (first | assumption | refine below_drew ?_ | refine below_alloc ?_ _))))
      ((first
        | (go_at_call 56; refine (hRun.out _ ?_).mono ?_; (repeat (first | assumption | refine below_drew ?_ | refine below_alloc ?_ _)); rintro e w2 ⟨rfl, hb2⟩; have hst := hS.out w2 hb2)))
    have hbh := Lib.hid hb2
    obtain ⟨y0, y1⟩ := hst
    have g0 : wr.heap.size < w2.heap.size := by have := hb2.size; rw [hW1h.out] at this; simp at this; omega
    have g1 : L < w2.heap.size := by have := hX1h.out.lt; have := hb2.size; omega
    clear hb2 hx0 hl0 hrefl hS hRun
    go_upto_region 4 with fail
    go_region
    obtain ⟨Bd, hBd⟩ : ∃ Bd, w2.heap.size = Bd := ⟨_, rfl⟩
    obtain ⟨W3, hW3⟩ : ∃ W3, W3 = (w2.alloc (.cells #[.string D] 9)).drew := ⟨_, rfl⟩
    rw [← hW3]
    rw [hBd] at g0 g1 ⊢
    obtain ⟨Bt, hBt⟩ : ∃ Bt, wr.heap.size = Bt := ⟨_, rfl⟩
    have hB3 : Below wr.heap.size wr W3 := by rw [hW3]; exact below_drew ((hB1h.out.trans (hbh.out.mono hB1h.out.size)).alloc (by have := hB1h.out.size; have := hbh.out.size; omega) _)
    have hbd3 : Boxed W3 Bd 9 (.string D) := by rw [hW3, ← hBd]; exact one_a w2 _
    have hb23 : Below w2.heap.size w2 W3 := by rw [hW3]; exact below_drew (below_alloc (Below.refl _ _) _)
    have hbt3 : Boxed W3 Bt 9 (.string T) := by
      rw [← hBt]
      exact (hb23.block _ (by rw [hBd]; exact g0)).trans ((hbh.out.block _ hBth.out.lt).trans hBth.out)
    have hX3 := hh.out.up hB3
    have hBw : wr.heap.size ≤ Bd := by omega
    rw [hBt] at y0 g0 ⊢
    clear y0 y1 hb23 hW3
    obtain ⟨kf, hkf⟩ : ∃ kf, nxK s.conf = kf := ⟨_, rfl⟩
    have hent : ∀ args w, (callFunc kf args).run Tryz.prog w = .ok (.enter kf args) w := by rw [← hkf]; exact nx_enters s.conf
    obtain ⟨bs, hbs⟩ : ∃ bs, s.conf.isSome = bs := ⟨_, rfl⟩
    obtain ⟨b33, hb33⟩ : ∃ b, decide (td.head? = some 33) = b := ⟨_, rfl⟩
    obtain ⟨R, hR⟩ : ∃ R, (⟨(Lib.trimPrefix D.data.toList (ByteArray.mk #[33]).data.toList).toArray⟩ : ByteArray) = R := ⟨_, rfl⟩
    have hCut : Hid (∀ W, Calls Tryz.prog 58 #[.string D, .string ⟨#[33]⟩] W fun e w' => e = .returned (.tuple #[.string R, .bool b33]) ∧ W = w') := Lib.hid (fun W => by
      have h5 := Tryz.strings_CutPrefix D ⟨#[33]⟩ W
      have e5 : Lib.hasPrefix D.data.toList (ByteArray.mk #[33]).data.toList = b33 := by
        rw [← htdh.out.2, str_data, ← hb33]
        exact head_prefix td 33
      rw [hR, e5] at h5
      exact h5.mono fun e w' h => ⟨h.1, h.2.symm⟩)
    have hRt : b33 = true → R = str td.tail := fun hb => by
      have e5 : Lib.hasPrefix td [33] = true := by rw [head_prefix, hb33]; exact hb
      rw [← hR, ← htdh.out.2, str_data]
      show str (Lib.trimPrefix td [33]) = _
      unfold Lib.trimPrefix
      rw [if_pos e5]
      cases td with
      | nil => rfl
      | cons x r => rfl
    obtain ⟨x40, x44, Aq, nq, cq, x42, hnq⟩ := hX3.cells
    rw [hkf] at x44
    rw [hbs] at hnq
    have hIn : Hid (Calls Tryz.prog 29 #[.pointer (some ⟨L, 0, none⟩)] W3 fun e w' => e = .returned (.bool bs) ∧ W3 = w') := Lib.hid (by rw [← hnq]; exact inConf_any L Aq nq cq W3 x42)
    have hTake : Hid (∀ (W : World) (told : Tx) (s' : MSt), RdX w W L long K s' → s'.conf = s.conf → Boxed W Bt 9 (.string T) → Boxed W Bd 9 (.string (str told)) → Calls Tryz.prog kf #[.pointer (some ⟨L, 0, none⟩), clR Bt Bd] W fun e w' => ∃ ok, e = .returned (.bool ok) ∧ Below w.heap.size w w' ∧ TookX w L long (K + 1) (takeC t told s') ok w') := Lib.hid (fun W told s' h1 h2 h3 h4 => by
      rw [← hkf, ← h2]
      rw [← hTh.out] at h3
      exact take_any h1 (by have := hKh.out.1; omega) h3 h4)
    have xd := hbd3.cell
    have hCutn := Lib.hid (hCut.out W3)
    have hbt3h := Lib.hid hbt3
    have hbd3h := Lib.hid hbd3
    have hX3h := Lib.hid hX3
    have hB3h := Lib.hid hB3
    have hbsh := Lib.hid hbs
    have hb33h := Lib.hid hb33
    have hRth := Lib.hid hRt
    have hkfh := Lib.hid hkf
    have hBth2 := Lib.hid hBt
    have hBwh := Lib.hid hBw
    unfold mvR at x44
    clear hB3 hbd3 hbt3 hX3 hkf hbs hb33 hR hRt hnq hCut hsl x40 x42 hBt hBw hBd
    by_cases hbb : b33 = true ∧ bs = true
    · obtain ⟨rfl, rfl⟩ := hbb
      have hrc : RC = (openT true s.cur).bind fun q => takeC t td.tail ⟨s.out, q, s.style, s.conf⟩ := by rw [hrC.out, if_pos ⟨of_decide_eq_true hb33h.out, hbsh.out⟩]
      obtain ⟨xc, hxc⟩ := Option.isSome_iff_exists.1 hbsh.out
      have hOp := Lib.hid (open_anyR (wr0 := wr) hh.out hB3h.out (by have := hKh.out.1; omega) hxc (hln.out hbsh.out) hsz.out)
      cases ho : openT true s.cur with
      | none =>
        have hrcn : Hid (RC = none) := Lib.hid (by rw [hrc, ho]; rfl)
        rw [ho] at hOp
        have hOpn : Hid (Calls Tryz.prog 59 #[.pointer (some ⟨L, 0, none⟩)] W3 fun e w' => e = .returned (.bool false) ∧ Below w.heap.size w w') := Lib.hid (hOp.out.mono fun e w' h => ⟨h.1, h.2.1⟩)
        clear hOp hrc ho hxc hTake hent x44
        go_wp2_with (first
          | (go_at_call 58; refine hCutn.out.mono ?_; rintro e w4 ⟨rfl, rfl⟩)
          | (go_at_call 29; refine hIn.out.mono ?_; rintro e w4 ⟨rfl, rfl⟩)
          | (go_at_call 59; refine hOpn.out.mono ?_; rintro e w4 ⟨rfl, hb4⟩; have hb4h := Lib.hid hb4; clear hb4))
        go_ret
        exact ⟨_, rfl, hb4h.out, by rw [hrcn.out]; exact TookX.none _ _ _ _ _⟩
      | some q =>
        have hrcn : Hid (RC = takeC t td.tail ⟨s.out, q, s.style, s.conf⟩) := Lib.hid (by rw [hrc, ho]; rfl)
        rw [ho] at hOp
        have hOpn : Hid (Calls Tryz.prog 59 #[.pointer (some ⟨L, 0, none⟩)] W3 fun e w' => e = .returned (.bool true) ∧ (w'.cell? ⟨Bd, 0, none⟩ = some (.string D) ∧ w'.frozen? ⟨Bd, 0, none⟩ = false) ∧ ∃ w5, w5 = w'.setCell ⟨Bd, 0, none⟩ (.string R) ∧ w5.cell? ⟨L, 4, none⟩ = some (.func (.func kf) #[.pointer (some ⟨L, 0, none⟩)] #[]) ∧
            Calls Tryz.prog kf #[.pointer (some ⟨L, 0, none⟩), clR Bt Bd] w5 fun e w' => ∃ ok, e = .returned (.bool ok) ∧ Below w.heap.size w w' ∧ TookX w L long (K + 1) (takeC t td.tail ⟨s.out, q, s.style, s.conf⟩) ok w') := Lib.hid (hOp.out.mono fun e w' h => by
          obtain ⟨rfl, -, hbu, hq⟩ := h
          have hbd4 : Boxed w' Bd 9 (.string D) := (hbu.block _ hbd3h.out.lt (by have := hBwh.out; omega)).trans hbd3h.out
          have hbt4 : Boxed w' Bt 9 (.string T) := (hbu.block _ hbt3h.out.lt (by rw [← hBth2.out]; omega)).trans hbt3h.out
          have hbs5 : But (fun k => k = Bd) w' (w'.setCell ⟨Bd, 0, none⟩ (.string R)) := But.setL (F := fun k => k = Bd) rfl _ _
          have hX5 := hq q rfl (w'.setCell ⟨Bd, 0, none⟩ (.string R)) (hbs5.more fun k e => by have := hBwh.out; omega)
          have hbd5 : Boxed (w'.setCell ⟨Bd, 0, none⟩ (.string R)) Bd 9 (.string R) := hbd4.set _
          have hbt5 : Boxed (w'.setCell ⟨Bd, 0, none⟩ (.string R)) Bt 9 (.string T) := (hbs5.block _ hbt4.lt (by omega)).trans hbt4
          rw [hRth.out rfl] at hbd5 hX5 hbt5 ⊢
          refine ⟨rfl, ⟨hbd4.cell, hbd4.frozen⟩, _, rfl, ?_, hTake.out _ td.tail ⟨s.out, q, s.style, s.conf⟩ hX5 rfl hbt5 hbd5⟩
          have := hX5.cells.2.1
          dsimp only at this
          rw [hkfh.out] at this
          exact this)
        unfold clR at hOpn
        clear hOp hrc ho hxc hTake x44
        go_upto_region 10 with (first
          | (go_at_call 58; refine hCutn.out.mono ?_; rintro e w4 ⟨rfl, rfl⟩)
          | (go_at_call 29; refine hIn.out.mono ?_; rintro e w4 ⟨rfl, rfl⟩)
          | (go_at_call 59; refine hOpn.out.mono ?_; rintro e w4 ⟨rfl, ⟨q1, q2⟩, w5, hw5, q3, q4⟩; have hw5h := Lib.hid hw5; have hq4h := Lib.hid q4; clear q4 hw5))
        rw [← hw5h.out]
        clear q1 q2
        go_wp2_with (go_at_fn kf; refine hq4h.out.mono ?_; rintro e w6 ⟨ok, rfl, hb6, hk6⟩; have hb6h := Lib.hid hb6; have hk6h := Lib.hid hk6; clear hb6 hk6)
        go_ret
        exact ⟨_, rfl, hb6h.out, by rw [hrcn.out]; exact hk6h.out⟩
    · have hrcn : Hid (RC = takeC t td s) := Lib.hid (by
        rw [hrC.out, if_neg]
        rintro ⟨h5, h6⟩
        exact hbb ⟨by rw [← hb33h.out]; exact decide_eq_true h5, by rw [← hbsh.out]; exact h6⟩)
      have hTk := Lib.hid (hTake.out W3 td s hX3h.out rfl hbt3h.out (by rw [htdh.out.2]; exact hbd3h.out))
      unfold clR at hTk
      cases b33
      case' false =>
        clear hbb hTake
        go_upto_region 10 with (go_at_call 58; refine hCutn.out.mono ?_; rintro e w4 ⟨rfl, rfl⟩)
      case' true =>
        obtain rfl : bs = false := by cases bs; rfl; exact absurd ⟨rfl, rfl⟩ hbb
        clear hbb hTake
        go_upto_region 10 with (first
          | (go_at_call 58; refine hCutn.out.mono ?_; rintro e w4 ⟨rfl, rfl⟩)
          | (go_at_call 29; refine hIn.out.mono ?_; rintro e w4 ⟨rfl, rfl⟩))
      all_goals
        go_wp2_with (go_at_fn kf; refine hTk.out.mono ?_; rintro e w6 ⟨ok, rfl, hb6, hk6⟩; have hb6h := Lib.hid hb6; have hk6h := Lib.hid hk6; clear hb6 hk6)
        go_ret
        exact ⟨_, rfl, hb6h.out, by rw [hrcn.out]; exact hk6h.out⟩
end
end Go.Proofs.YtcpopnhnihbofaaGreatDoor
