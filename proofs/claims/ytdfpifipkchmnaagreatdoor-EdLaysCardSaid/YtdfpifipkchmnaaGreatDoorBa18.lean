/- Proved here: texts joined: DtRef2, Last, Open. -/
import Derived.Test.YtdfpifipkchmnaaGreatDoorBa03
import Derived.Test.YtdfpifipkchmnaaGreatDoorBa04
import Derived.Test.YtdfpifipkchmnaaGreatDoorBa17
import Derived.Test.YtdfpifipkchmnaaGreatDoorChecked
import Derived.WalkLawsBesides
import Derived.Deep.QuietTactic
import Derived.BigQuiet
import Derived.Lib.Hide
/- Proved here: the contracts of the document's own answers of layer 15: Strip, Unblock. -/
namespace Go.Proofs.YtdfpifipkchmnaaGreatDoor
open Go.RowKit
set_option linter.unusedVariables false
set_option maxRecDepth 100000

set_option maxHeartbeats 4000000 in
theorem rStrip_any (A : Option Addr) (n c : Nat) (l : Txs) (w : World) (hsm : smallD l) (hA : TxR w w.heap.size (A, n, c) l) :
    Calls Tryz.prog 18 #[.slice A n c] w fun e w' => TxsOut w w' e (stripD l) := by
  have hl := hA.2.2.len
  dsimp only at hl
  have hn : n ≤ 100000 := by rw [← hl]; exact hsm.1
  obtain ⟨i0, hi, hzz⟩ := Option.map_eq_some_iff.1 infoStr
  simp only [Prod.mk.injEq] at hzz
  obtain ⟨hz0, hz1, hz2⟩ := hzz
  have hAh := Lib.hid hA
  have hsh := Lib.hid hsm.2
  have hlh := Lib.hid hl
  have hcell : Hid (∀ (W : World) (S : ByteArray) j x, ([.string S] : List Value)[j]? = some x → (W.alloc (.cells #[.string S] 9)).cell? ((⟨W.heap.size, 0, none⟩ : Addr).add j) = some x) := Lib.hid (fun W S j x hx => by
    rw [show (⟨W.heap.size, 0, none⟩ : Addr).add j = ⟨W.heap.size, j, none⟩ from by unfold Addr.add; split <;> simp_all, cells_of (one_a W _)]
    simpa using hx)
  have hmax : Hid (∀ k : Nat, k ≤ n → k + 1 ≤ maxLen ∧ (k + 1) * 16 ≤ 140737488355328) := Lib.hid (fun k hk => ⟨by unfold maxLen; omega, by omega⟩)
  have hstart : Hid (TxO w w (.slice none 0 0) []) := Lib.hid ⟨World.ownsRow_nil _ _ _ _, Below.refl _ _⟩
  clear hA hl hsm
  go_enter Tryz.func18, Tryz.ntmps18
  go_wp2
  go_loopw [3, 4, 5] (fun s3 s4 _ wr => ∃ (k : Nat) (v : Value), v = s3 ∧ k ≤ n ∧ s4 = .int .i64 k ∧ Hid (TxO w wr v ((l.take k).map bareT))) (fun _ s4 _ _ => n - (intOf s4).toNat)
  case atStart => exact ⟨0, _, rfl, Nat.zero_le _, rfl, hstart⟩
  case round =>
    obtain ⟨k, v, rfl, hk, rfl, hO⟩ := hrel
    obtain ⟨wo, rfl⟩ : ∃ wo : World, wo = wr := ⟨_, rfl⟩
    by_cases hlt : k < n
    · obtain ⟨b, o, t, rfl, hb, ht, hc⟩ := Strs.at_ hAh.out.2.2 (k := k) hlt
      have xc := (hO.out.below.cell (p := ⟨b, o + k, none⟩) hb).trans hc
      have htl := hsh.out t (List.mem_of_getElem? ht)
      have hB := Lib.hid (fun W => rBegins_anyD t W htl)
      have htk : Hid ((l.take (k + 1)).map bareT = (l.take k).map bareT ++ [bareT t]) := Lib.hid (by rw [take_at ht, List.map_append]; rfl)
      have hlk : Hid (((l.take k).map bareT).length = k) := Lib.hid (by rw [List.length_map, List.length_take]; have := hlh.out; omega)
      obtain ⟨xs, hxs⟩ : ∃ xs, (l.take k).map bareT = xs := ⟨_, rfl⟩
      rw [hxs] at hO hlk htk
      have hown : Hid (∀ o : Obj, (wo.alloc o).ownsRow w.heap.size 9 1 v k (xs.map fun s => .string (str s))) := Lib.hid (fun o => by rw [← hlk.out]; exact hO.out.own.alloc o)
      have hbase : Hid (∀ o : Obj, w.heap.size ≤ (wo.alloc o).heap.size) := Lib.hid (fun o => by have := hO.out.below.size; simp; omega)
      have hpush : Hid (∀ (v' : Value) (w2 : World) (o : Obj) (s : Tx), w2.ownsRow w.heap.size 9 1 v' (k + 1) ((xs.map fun s => .string (str s)) ++ [.string (str s)]) → (wo.alloc o).grownBy w2 v.ownBlock → TxO w w2 v' (xs ++ [s])) := Lib.hid (fun v' w2 o s h1 h2 => hO.out.push (by rw [hlk.out]; exact h1) h2)
      obtain ⟨p, hp⟩ : ∃ p, pointB t = p := ⟨_, rfl⟩
      obtain ⟨S, hS⟩ : ∃ S, str t = S := ⟨_, rfl⟩
      obtain ⟨R, hR⟩ : ∃ R, str (bareT t) = R := ⟨_, rfl⟩
      have hbt : p = false → R = S := fun hq => by rw [← hR, ← hS]; unfold bareT; rw [hp, hq]; rfl
      have hsl : p = true → ∀ W, (Instr.slice 9 (.string S) (some (.int .i64 1)) none none).run Tryz.prog W = .ok (.string R) W := fun hq W => by
        have hne : 1 ≤ t.length := by
          cases t with
          | nil => rw [hq] at hp; cases hp
          | cons => simp
        have := slice_str_from t 1 hne W
        rw [hS] at this
        have e : bareT t = t.drop 1 := by unfold bareT; rw [hp, hq, if_pos rfl, List.drop_one]
        rw [← hR, e]
        exact this
      rw [hp] at hB
      rw [hS] at hB xc
      have hRh := Lib.hid hR
      have hkn : Hid (k + 1 ≤ n) := Lib.hid (by omega)
      clear ht hc hb hp hS hR hxs htl hO
      cases p
      · obtain rfl := hbt rfl
        clear hsl hbt
        go_wp2_with (first
          | (go_at_call 31; refine (hB.out _).mono ?_; rintro e w' ⟨rfl, hw⟩; rw [hw])
          | (at_builtin; refine wpList_append_own_at _ rfl _ _ 22 rfl w.heap.size 9 i0 (.string ByteArray.empty) 1 16 Tryz.underlying22 hi hz0 hz1 hz2 rfl (by decide) v k _ rfl (hown.out _) ⟨wo.heap.size, 0, none⟩ 1 1 [.string R] rfl rfl (hcell.out wo R) (by simp; rfl) (hmax.out k hk).1 (hmax.out k hk).2 (hbase.out _) ?_; intro v' w2 hown2 hg2 hnil2 hloc2; clear hnil2 hloc2; rw [← hRh.out] at hown2; have hT2 := Lib.hid (hpush.out v' w2 _ (bareT t) hown2 hg2); clear hown2 hg2))
        go_roundw
        case rel => exact ⟨k + 1, v', rfl, hkn.out, by go_num, by rw [htk.out]; exact hT2⟩
        case measure => simp [intOf]; have := hkn.out; omega
      · have hsl := hsl rfl
        clear hbt
        go_wp2_with (first
          | (go_at_call 31; refine (hB.out _).mono ?_; rintro e w' ⟨rfl, hw⟩; rw [hw])
          | (at_builtin; refine wpList_append_own_at _ rfl _ _ 22 rfl w.heap.size 9 i0 (.string ByteArray.empty) 1 16 Tryz.underlying22 hi hz0 hz1 hz2 rfl (by decide) v k _ rfl (hown.out _) ⟨wo.heap.size, 0, none⟩ 1 1 [.string R] rfl rfl (hcell.out wo R) (by simp; rfl) (hmax.out k hk).1 (hmax.out k hk).2 (hbase.out _) ?_; intro v' w2 hown2 hg2 hnil2 hloc2; clear hnil2 hloc2; rw [← hRh.out] at hown2; have hT2 := Lib.hid (hpush.out v' w2 _ (bareT t) hown2 hg2); clear hown2 hg2))
        go_roundw
        case rel => exact ⟨k + 1, v', rfl, hkn.out, by go_num, by rw [htk.out]; exact hT2⟩
        case measure => simp [intOf]; have := hkn.out; omega
    · obtain rfl : k = n := by omega
      have hO2 := hO.out
      rw [List.take_of_length_le (by rw [hlh.out]; exact Nat.le_refl _)] at hO2
      have hOh := Lib.hid hO2
      clear hO hO2
      go_wp2
      go_ret
      exact hOh.out.out

set_option maxHeartbeats 2000000 in
theorem rUnblock_any (A : Option Addr) (n c : Nat) (l : Txs) (w : World) (hsm : smallD l) (hA : TxR w w.heap.size (A, n, c) l) :
    Calls Tryz.prog 56 #[.slice A n c] w fun e w' => TxsN w w' e (unblockD [] 0 l) := by
  have hl := hA.2.2.len
  dsimp only at hl
  have hn : n ≤ 100000 := by rw [← hl]; exact hsm.1
  have hAh := Lib.hid hA
  have hlh := Lib.hid hl
  have hb0 := Lib.hid (Below.refl w.heap.size w)
  obtain ⟨RR, hRR⟩ : ∃ RR, unblockD [] 0 l = RR := ⟨_, rfl⟩
  rw [hRR]
  have hRh : Hid (RR = unblockD (l.take 0) 0 (l.drop 0)) := Lib.hid hRR.symm
  clear hA hl hsm hRR
  go_enter Tryz.func56, Tryz.ntmps56
  go_wp2
  go_loop [4] (fun i => ∃ k : Nat, k ≤ n ∧ i = .int .i64 k ∧ Hid (RR = unblockD (l.take k) k (l.drop k))) (fun i => n - (intOf i).toNat)
  case atStart => exact ⟨0, Nat.zero_le _, rfl, hRh⟩
  case round =>
    obtain ⟨k, hk, rfl, hm⟩ := hrel
    clear hRh
    by_cases hlt : k < n
    · obtain ⟨b, o, t, rfl, hb, ht, hc⟩ := Strs.at_ hAh.out.2.2 (k := k) hlt
      have hst := unblock_step l k t ht
      obtain ⟨S, hS⟩ : ∃ S, str t = S := ⟨_, rfl⟩
      rw [hS] at hc
      have he : (S.toList == [46, 10]) = decide (t = endD) := by
        rw [← hS, Lib.toList_data, str_data, Bool.eq_iff_iff, beq_iff_eq, decide_eq_true_eq]
        rfl
      by_cases hte : t = endD
      · have he2 : (S.toList == [46, 10]) = true := by rw [he, decide_eq_true hte]
        rw [if_pos hte] at hst
        have hRR : Hid (RR = (l.take k, k + 1)) := Lib.hid (by rw [hm.out, hst])
        obtain ⟨A', m', q', hsl, hT', hm'⟩ := slice_to (k := k) hAh.out (by omega)
        have hTh := Lib.hid hT'
        clear he hte hst hm ht hT' hS
        go_wp2
        go_ret2
        subst hm'
        rw [hRR.out]
        exact ⟨A', _, q', by simp, hTh.out, hb0.out⟩
      · have he2 : (S.toList == [46, 10]) = false := by rw [he, decide_eq_false hte]
        rw [if_neg hte] at hst
        have hm2 : Hid (RR = unblockD (l.take (k + 1)) (k + 1) (l.drop (k + 1))) := Lib.hid (by rw [hm.out, hst])
        clear he hte hst hm ht hS
        go_wp2
        go_round
        case rel => exact ⟨k + 1, by omega, by go_num, hm2⟩
        case measure => simp [intOf]; omega
    · obtain rfl : k = n := by omega
      have hRR : Hid (RR = ([], 0)) := Lib.hid (by
        rw [hm.out, List.drop_of_length_le (by rw [hlh.out]; exact Nat.le_refl _)]
        cases l.take k <;> rfl)
      clear hm
      go_wp2
      go_ret2
      rw [hRR.out]
      exact ⟨none, 0, 0, rfl, TxR.nil _ _, hb0.out⟩
end Go.Proofs.YtdfpifipkchmnaaGreatDoor
/- Proved here, without conditions on the program: the last byte of a string. (NOT beside stage 1's Lines, which has the same name.) -/
namespace Go.Proofs.YtdfpifipkchmnaaGreatDoor
open Go.RowKit
set_option linter.unusedVariables false

theorem last_byte (s : ByteArray) (h : 1 ≤ s.size) (k : Nat) (hk : k = s.size - 1) (h' : k < s.size) : endedB s.data.toList = (((s[k]'h').toNat : Int) == 10) := by
  subst hk
  have e : s.data.toList.getLast? = some (s[s.size - 1]'h') := by
    rw [List.getLast?_eq_getElem?]
    have hz : s.data.toList.length = s.size := (Lib.size_eq s).symm
    rw [hz, List.getElem?_eq_getElem (by omega)]
    rfl
  unfold endedB
  rw [e, Bool.eq_iff_iff]
  simp only [beq_iff_eq, Option.some.injEq]
  constructor
  · intro h; rw [h]; rfl
  · intro h; exact UInt8.toNat_inj.1 (by simpa using (by exact_mod_cast h : (s[s.size - 1]'h').toNat = 10))
end Go.Proofs.YtdfpifipkchmnaaGreatDoor
/- Proved here: the contract of the document's own answer Open of layer 1 (for strings of at most maxLen bytes); for stages behind the first: NOT beside stage 1's Lines and Ref, which have the same names. -/
namespace Go.Proofs.YtdfpifipkchmnaaGreatDoor
open Go.RowKit
set_option linter.unusedVariables false

set_option maxHeartbeats 400000 in
theorem rOpen_any (A : Option Addr) (n c B : Nat) (ss : List (List UInt8)) (w : World) (hn : n ≤ maxLen) (hs : ∀ s ∈ ss, s.length ≤ maxLen) (hA : Strs w B A n ss) :
    Calls Tryz.prog 13 #[.slice A n c] w fun e w' => e = .returned (.bool (openB ss)) ∧ w = w' := by
  unfold maxLen at hn
  have hl := hA.len
  by_cases h0 : n = 0
  · subst h0
    go_enter Tryz.func13, Tryz.ntmps13
    go_wp2
    go_ret
    obtain rfl : ss = [] := List.eq_nil_of_length_eq_zero hl
    exact ⟨rfl, rfl⟩
  · obtain ⟨b, o, t, rfl, _, ht, hc⟩ := hA.at_ (k := n - 1) (by omega)
    have htl : t.length ≤ maxLen := hs t (List.mem_of_getElem? ht)
    unfold maxLen at htl
    have hres : Hid ((!endedB t) = openB ss) := Lib.hid <| by
      unfold openB; rw [List.getLast?_eq_getElem?, hl, ht]
    have h1 : (1 : Int) ≤ n := by omega
    have hd : (((n : Int)) == 0) = false := by simp; omega
    by_cases hz : (str t).size = 0
    · have hzz : ((((str t).size : Nat) : Int) == 0) = true := by rw [hz]; rfl
      have hz' := Lib.hid hz
      clear hz
      go_enter Tryz.func13, Tryz.ntmps13
      go_wp2
      go_ret
      refine ⟨ret_bool ?_, rfl⟩
      rw [← hres.out]
      have := hz'.out
      rw [str_size] at this
      rw [List.eq_nil_of_length_eq_zero this]; rfl
    · have hzz : ((((str t).size : Nat) : Int) == 0) = false := by rw [beq_eq_false_iff_ne]; omega
      have hp : 1 ≤ (str t).size := by omega
      have hsl : (str t).size ≤ 9223372036854775807 := by rw [str_size]; omega
      have hlb := Lib.hid (last_byte (str t) hp _ rfl (by omega))
      go_enter Tryz.func13, Tryz.ntmps13
      go_wp2
      go_ret
      refine ⟨ret_bool ?_, rfl⟩
      have h2 := hlb.out
      rw [str_data] at h2
      rw [← hres.out, h2]
      rfl
end Go.Proofs.YtdfpifipkchmnaaGreatDoor
