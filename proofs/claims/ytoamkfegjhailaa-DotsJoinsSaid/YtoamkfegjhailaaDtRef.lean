/- Proved here: the contracts of the document's own answers of layer 15: Dotted, Block, Unblock, Strip. -/
import Derived.Test.YtoamkfegjhailaaDotSm
import Derived.Test.YtoamkfegjhailaaMkPlA
import Derived.Test.YtoamkfegjhailaaByte
import Derived.Test.YtoamkfegjhailaaSlcT
import Derived.Test.YtoamkfegjhailaaPush
import Derived.Laws.OwnMore
import Derived.RangeFuncBox
import Derived.Deep.DeepCutAuto
namespace Go.Proofs.Ytoamkfegjhailaa
open Go.RowKit
set_option linter.unusedVariables false
set_option maxRecDepth 100000

theorem rBegins_anyD (s : Tx) (w : World) (hs : s.length ≤ 1000000) : Calls Try.prog 23 #[.string (str s)] w fun e w' => e = .returned (.bool (pointB s)) ∧ w' = w := by
  cases s with
  | nil =>
    have hz : (str []).size = 0 := rfl
    go_enter Try.func23, Try.ntmps23
    go_wp2
    go_ret
    exact ⟨rfl, rfl⟩
  | cons c r =>
    have hz : (str (c :: r)).size = r.length + 1 := by rw [str_size]; rfl
    have h0 : (0 : Int) < ((str (c :: r)).size : Int) := by rw [hz]; omega
    have hres : Hid (pointB (c :: r) = (((c.toNat : Nat) : Int) == 46)) := Lib.hid (by
      have := byte_is (c := c) (n := 46) (by omega)
      rw [show ((46 : Nat) : Int) = 46 from rfl] at this
      rw [this]
      unfold pointB
      rw [Bool.eq_iff_iff]
      simp)
    obtain ⟨S, hS⟩ : ∃ S, str (c :: r) = S := ⟨_, rfl⟩
    have h1 : 0 < S.size := by rw [← hS, hz]; omega
    have hb : S[0]'h1 = c := by subst hS; rfl
    rw [hS] at h0 ⊢
    clear hS hz
    go_enter Try.func23, Try.ntmps23
    go_wp2
    go_ret
    exact ⟨ret_bool (by rw [hres.out]), rfl⟩

theorem dotted_step {l : Txs} {k : Nat} {t : Tx} (ht : l[k]? = some t) : dottedB (l.drop k) = (pointB t || dottedB (l.drop (k + 1))) := by
  rw [drop_at ht]
  rfl
set_option maxHeartbeats 1000000 in
theorem rDotted_any (A : Option Addr) (n c B : Nat) (l : Txs) (w : World) (hn : n ≤ 100000) (hs : ∀ s ∈ l, s.length ≤ 1000000) (hA : Strs w B A n l) :
    Calls Try.prog 12 #[.slice A n c] w fun e w' => e = .returned (.bool (dottedB l)) ∧ w' = w := by
  have hl := hA.len
  go_enter Try.func12, Try.ntmps12
  go_wp2
  go_loop [3] (fun i => ∃ k : Nat, k ≤ n ∧ i = .int .i64 k ∧ Hid (dottedB l = dottedB (l.drop k))) (fun i => n - (intOf i).toNat)
  case atStart => exact ⟨0, Nat.zero_le _, rfl, Lib.hid rfl⟩
  case round =>
    obtain ⟨k, hk, rfl, hm⟩ := hrel
    by_cases hlt : k < n
    · obtain ⟨b, o, t, rfl, _, ht, hc⟩ := hA.at_ (k := k) hlt
      have hB := Lib.hid (rBegins_anyD t w (hs t (List.mem_of_getElem? ht)))
      obtain ⟨p, hp⟩ : ∃ p, pointB t = p := ⟨_, rfl⟩
      have hd : Hid (dottedB l = (p || dottedB (l.drop (k + 1)))) := Lib.hid (by rw [hm.out, dotted_step ht, hp])
      rw [hp] at hB
      clear ht hp
      cases p
      · go_wp2_with (go_at_call 23; refine hB.out.mono ?_; rintro e w' ⟨rfl, hw⟩; rw [hw])
        go_round
        case rel => exact ⟨k + 1, by omega, by go_num, Lib.hid (by rw [hd.out]; rfl)⟩
        case measure => simp [intOf]; omega
      · go_wp2_with (go_at_call 23; refine hB.out.mono ?_; rintro e w' ⟨rfl, hw⟩; rw [hw])
        go_ret
        exact ⟨ret_bool (by rw [hd.out]; rfl), rfl⟩
    · go_wp2
      go_ret
      have : k = n := by omega
      subst this
      exact ⟨ret_bool (by rw [hm.out, List.drop_of_length_le (by omega)]; rfl), rfl⟩

theorem str_dot (t : Tx) : (⟨#[46]⟩ : ByteArray) ++ str t = str (46 :: t) := by
  apply ByteArray.ext
  simp [str]
set_option maxHeartbeats 4000000 in
theorem rBlock_own (A : Option Addr) (n c : Nat) (l : Txs) (w : World) (hsm : smallD l) (hA : TxR w w.heap.size (A, n, c) l) :
    Calls Try.prog 14 #[.slice A n c] w fun e w' => OwnT w w' e (blockD l) := by
  have hl := hA.2.2.len
  dsimp only at hl
  have hn : n ≤ 100000 := by rw [← hl]; exact hsm.1
  obtain ⟨i0, hi, hzz⟩ := Option.map_eq_some_iff.1 infoStr
  simp only [Prod.mk.injEq] at hzz
  obtain ⟨hz0, hz1, hz2⟩ := hzz
  have hAh := Lib.hid hA
  have hsh := Lib.hid hsm.2
  have hlh := Lib.hid hl
  have hcell : Hid (∀ (W : World) (S : ByteArray) j x, ([.string S] : List Value)[j]? = some x → (W.alloc (.cells #[.string S] 9)).cell? ((⟨W.heap.size, 0, none⟩ : Addr).add j) = some x) := Lib.hid (fun W S j x hx => by
    rw [show (⟨W.heap.size, 0, none⟩ : Addr).add j = ⟨W.heap.size, j, none⟩ from by unfold Addr.add; split <;> simp_all, cells_of (one_a W _)]
    simpa using hx)
  have hmax : Hid (∀ k : Nat, k ≤ n → k + 1 ≤ maxLen ∧ (k + 1) * 16 ≤ 140737488355328) := Lib.hid (fun k hk => ⟨by unfold maxLen; omega, by omega⟩)
  have hstart : Hid (TxO w w (.slice none 0 0) []) := Lib.hid ⟨World.ownsRow_nil _ _ _ _, Below.refl _ _⟩
  clear hA hl hsm
  go_enter Try.func14, Try.ntmps14
  go_wp2
  go_loopw [3, 4, 5] (fun s3 s4 _ wr => ∃ (k : Nat) (v : Value), v = s3 ∧ k ≤ n ∧ s4 = .int .i64 k ∧ Hid (TxO w wr v ((l.take k).map dotT))) (fun _ s4 _ _ => n - (intOf s4).toNat)
  case atStart => exact ⟨0, _, rfl, Nat.zero_le _, rfl, hstart⟩
  case round =>
    obtain ⟨k, v, rfl, hk, rfl, hO⟩ := hrel
    obtain ⟨wo, rfl⟩ : ∃ wo : World, wo = wr := ⟨_, rfl⟩
    by_cases hlt : k < n
    · obtain ⟨b, o, t, rfl, hb, ht, hc⟩ := Strs.at_ hAh.out.2.2 (k := k) hlt
      have xc := (hO.out.below.cell (p := ⟨b, o + k, none⟩) hb).trans hc
      have htl := hsh.out t (List.mem_of_getElem? ht)
      have hB := Lib.hid (fun W => rBegins_anyD t W htl)
      have htk : Hid ((l.take (k + 1)).map dotT = (l.take k).map dotT ++ [dotT t]) := Lib.hid (by rw [take_at ht, List.map_append]; rfl)
      have hlk : Hid (((l.take k).map dotT).length = k) := Lib.hid (by rw [List.length_map, List.length_take]; have := hlh.out; omega)
      obtain ⟨xs, hxs⟩ : ∃ xs, (l.take k).map dotT = xs := ⟨_, rfl⟩
      rw [hxs] at hO hlk htk
      have hown : Hid (∀ o : Obj, (wo.alloc o).ownsRow w.heap.size 9 1 v k (xs.map fun s => .string (str s))) := Lib.hid (fun o => by rw [← hlk.out]; exact hO.out.own.alloc o)
      have hbase : Hid (∀ o : Obj, w.heap.size ≤ (wo.alloc o).heap.size) := Lib.hid (fun o => by have := hO.out.below.size; simp; omega)
      have hpush : Hid (∀ (v' : Value) (w2 : World) (o : Obj) (s : Tx), w2.ownsRow w.heap.size 9 1 v' (k + 1) ((xs.map fun s => .string (str s)) ++ [.string (str s)]) → (wo.alloc o).grownBy w2 v.ownBlock → TxO w w2 v' (xs ++ [s])) := Lib.hid (fun v' w2 o s h1 h2 => hO.out.push (by rw [hlk.out]; exact h1) h2)
      obtain ⟨p, hp⟩ : ∃ p, pointB t = p := ⟨_, rfl⟩
      obtain ⟨S, hS⟩ : ∃ S, str t = S := ⟨_, rfl⟩
      have hdt : Hid (str (dotT t) = if p = true then (⟨#[46]⟩ : ByteArray) ++ S else S) := Lib.hid (by
        unfold dotT
        rw [hp, ← hS]
        cases p
        · rfl
        · rw [if_pos rfl, if_pos rfl, str_dot])
      rw [hp] at hB
      rw [hS] at hB xc
      have hSs : ¬ 9223372036854775807 < 1 + S.size := by rw [← hS, str_size]; omega
      have hkn : Hid (k + 1 ≤ n) := Lib.hid (by omega)
      clear ht hc hb hp hS hxs htl hO
      cases p
      · go_wp2_with (first
          | (go_at_call 23; refine (hB.out _).mono ?_; rintro e w' ⟨rfl, hw⟩; rw [hw])
          | (at_builtin; refine wpList_append_own_at _ rfl _ _ 22 rfl w.heap.size 9 i0 (.string ByteArray.empty) 1 16 Try.underlying22 hi hz0 hz1 hz2 rfl (by decide) v k _ rfl (hown.out _) ⟨wo.heap.size, 0, none⟩ 1 1 [.string S] rfl rfl (hcell.out wo S) (by simp; rfl) (hmax.out k hk).1 (hmax.out k hk).2 (hbase.out _) ?_; intro v' w2 hown2 hg2 hnil2 hloc2; clear hnil2 hloc2; rw [show S = str (dotT t) by rw [hdt.out]; rfl] at hown2; have hT2 := Lib.hid (hpush.out v' w2 _ (dotT t) hown2 hg2); clear hown2 hg2))
        go_roundw
        case rel => exact ⟨k + 1, v', rfl, hkn.out, by go_num, by rw [htk.out]; exact hT2⟩
        case measure => simp [intOf]; have := hkn.out; omega
      · go_wp2_with (first
          | (go_at_call 23; refine (hB.out _).mono ?_; rintro e w' ⟨rfl, hw⟩; rw [hw])
          | (at_builtin; refine wpList_append_own_at _ rfl _ _ 22 rfl w.heap.size 9 i0 (.string ByteArray.empty) 1 16 Try.underlying22 hi hz0 hz1 hz2 rfl (by decide) v k _ rfl (hown.out _) ⟨wo.heap.size, 0, none⟩ 1 1 [.string (⟨#[46]⟩ ++ S)] rfl rfl (hcell.out wo (⟨#[46]⟩ ++ S)) (by simp; rfl) (hmax.out k hk).1 (hmax.out k hk).2 (hbase.out _) ?_; intro v' w2 hown2 hg2 hnil2 hloc2; clear hnil2 hloc2; rw [show (⟨#[46]⟩ : ByteArray) ++ S = str (dotT t) by rw [hdt.out]; rfl] at hown2; have hT2 := Lib.hid (hpush.out v' w2 _ (dotT t) hown2 hg2); clear hown2 hg2))
        go_roundw
        case rel => exact ⟨k + 1, v', rfl, hkn.out, by go_num, by rw [htk.out]; exact hT2⟩
        case measure => simp [intOf]; have := hkn.out; omega
    · obtain rfl : k = n := by omega
      have hO2 := hO.out
      rw [List.take_of_length_le (by rw [hlh.out]; exact Nat.le_refl _)] at hO2
      have hlk : Hid ((l.map dotT).length = k) := Lib.hid (by rw [List.length_map]; exact hlh.out)
      have hown : Hid ((wo.alloc (.cells #[.string ⟨#[46, 10]⟩] 9)).ownsRow w.heap.size 9 1 v k ((l.map dotT).map fun s => .string (str s))) := Lib.hid (by rw [← hlk.out]; exact hO2.own.alloc _)
      have hbase : Hid (w.heap.size ≤ (wo.alloc (.cells #[.string ⟨#[46, 10]⟩] 9)).heap.size) := Lib.hid (by have := hO2.below.size; simp; omega)
      have hpush : Hid (∀ (v' : Value) (w2 : World), w2.ownsRow w.heap.size 9 1 v' (k + 1) (((l.map dotT).map fun s => .string (str s)) ++ [.string (str endD)]) → (wo.alloc (.cells #[.string ⟨#[46, 10]⟩] 9)).grownBy w2 v.ownBlock → TxO w w2 v' (blockD l)) := Lib.hid (fun v' w2 h1 h2 => hO2.push (by rw [hlk.out]; exact h1) h2)
      clear hO hO2
      go_wp2_with (at_builtin; refine wpList_append_own_at _ rfl _ _ 22 rfl w.heap.size 9 i0 (.string ByteArray.empty) 1 16 Try.underlying22 hi hz0 hz1 hz2 rfl (by decide) v k _ rfl hown.out ⟨wo.heap.size, 0, none⟩ 1 1 [.string ⟨#[46, 10]⟩] rfl rfl (hcell.out wo _) (by simp; rfl) (hmax.out k hk).1 (hmax.out k hk).2 hbase.out ?_; intro v' w2 hown2 hg2 hnil2 hloc2; clear hnil2 hloc2; have hT2 := Lib.hid (hpush.out v' w2 hown2 hg2); clear hown2 hg2)
      go_ret
      exact ⟨_, rfl, hT2.out⟩
theorem OwnT.out {w w' : World} {e : Ending} {xs : Txs} (h : OwnT w w' e xs) : TxsOut w w' e xs := by
  obtain ⟨v, rfl, h⟩ := h
  exact h.out
theorem rBlock_any (A : Option Addr) (n c : Nat) (l : Txs) (w : World) (hsm : smallD l) (hA : TxR w w.heap.size (A, n, c) l) :
    Calls Try.prog 14 #[.slice A n c] w fun e w' => TxsOut w w' e (blockD l) := (rBlock_own A n c l w hsm hA).mono fun e w' h => h.out
end Go.Proofs.Ytoamkfegjhailaa
