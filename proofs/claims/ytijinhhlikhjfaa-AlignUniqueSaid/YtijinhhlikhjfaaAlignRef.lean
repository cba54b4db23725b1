/- Proved here: contracts of the document's own answers of layers 3 and 5: Ints, Lists, Few. -/
import Derived.Test.YtijinhhlikhjfaaCks
import Derived.Test.YtijinhhlikhjfaaAppend
import Derived.Test.YtijinhhlikhjfaaChecked
import Derived.WalkLawsBesides
import Derived.BigFrame
import Derived.Deep.QuietTactic
import Derived.BigQuiet
import Derived.Outline
namespace Go.Proofs.Ytijinhhlikhjfaa
open Go.RowKit
set_option linter.unusedVariables false

theorem infoIntA : (Try.prog.info? 3).map (fun i => (i.zero, i.size, i.bytes)) = some (some (.int .i64 0), 1, 8) := by kernel_rfl
theorem infoRowA : (Try.prog.info? 26).map (fun i => (i.zero, i.size, i.bytes)) = some (some (.slice none 0 0), 1, 24) := by kernel_rfl

theorem ints_take {l : List UInt8} {k : Nat} {b : UInt8} (h : l[k]? = some b) : ((ints l).take (k + 1)).map (fun x => Value.int .i64 x) = ((ints l).take k).map (fun x => Value.int .i64 x) ++ [.int .i64 b.toNat] := by
  rw [take_at (ints_at h), List.map_append]; rfl

set_option maxHeartbeats 800000 in
theorem Ints_any (A : Option Addr) (n c B : Nat) (l : List UInt8) (w : World) (hn : n ≤ 100000) (hB : B ≤ w.heap.size) (hA : Byts w B A n l) :
    Calls Try.prog 14 #[.slice A n c] w fun e w' => OwnNums w w' e (ints l) := by
  have hl : l.length = n := hA.len
  obtain ⟨i0, hi, hz0, hz1, hz2⟩ := info_parts infoIntA
  go_enter Try.func14, Try.ntmps14
  go_wp2
  go_loopw [3, 4] (fun so si wr => ∃ (k : Nat) (v : Value), k ≤ n ∧ si = .int .i64 k ∧ v = so ∧ wr.ownsRow w.heap.size 3 1 v k (((ints l).take k).map fun x => .int .i64 x) ∧ Below w.heap.size w wr) (fun _ si _ => n - (intOf si).toNat)
  case atStart => exact ⟨0, _, Nat.zero_le _, rfl, rfl, World.ownsRow_nil _ _ _ _, Below.refl _ _⟩
  case round =>
    obtain ⟨k, v, hk, rfl, rfl, hown, hBe⟩ := hrel
    obtain ⟨wo, rfl⟩ : ∃ wo : World, wo = wr := ⟨_, rfl⟩
    by_cases hlt : k < n
    · obtain ⟨b, o, x, rfl, hb, hx, hc0⟩ := hA.at_ (k := k) hlt
      have hc := (hBe.cell (p := ⟨b, o + k, none⟩) (by show b < _; omega)).trans hc0
      have hki : (k : Int) < (n : Int) := by omega
      have hx0 := ints_take hx
      have hx2 : x.toNat < 256 := x.toNat_lt
      obtain ⟨z, hz⟩ : ∃ z, z = x.toNat := ⟨_, rfl⟩
      rw [← hz] at hc hx0 hx2
      have hx0h := Lib.hid hx0
      have hmax : Hid (k + 1 ≤ maxLen ∧ (k + 1) * 8 ≤ 140737488355328) := Lib.hid ⟨by unfold maxLen; omega, by omega⟩
      have hso := hBe.size
      clear hc0 hx hz hx0
      go_wp2_with (at_builtin; refine wpList_append_own_at _ rfl _ _ 26 rfl w.heap.size 3 i0 (.int .i64 0) 1 8 Try.underlying26 hi hz0 hz1 hz2 rfl (by decide) v k _ rfl (hown.alloc _) ⟨wo.heap.size, 0, none⟩ 1 1 [.int .i64 (z : Int)] rfl rfl (cell_one_new _ _ _) (by simp [Value.oneCell']) hmax.out.1 hmax.out.2 (by simp; omega) ?_; intro v' w2 hown2 hg2 hnil2 hloc2; clear hnil2)
      go_roundw
      case rel => exact ⟨k + 1, v', by omega, by go_num, rfl, by rw [hx0h.out]; exact hown2, (hBe.alloc hso _).grown hg2 (by simp; omega) (fun j e => (hown.lt j e).1)⟩
      case measure => simp [intOf] <;> omega
    · obtain rfl : k = n := by omega
      go_wp2
      go_ret
      refine ⟨_, rfl, ?_, hBe⟩
      rw [ints_len, hl]
      rwa [List.take_of_length_le (by rw [ints_len]; omega)] at hown

/-- Rows of numbers were made. -/
def RowsOut (w w' : World) (e : Ending) (xss : List (List Int)) : Prop := ∃ v rows, e = .returned v ∧ RowsIn w w' v (fun _ => False) rows xss ∧ Below w.heap.size w w'

set_option maxHeartbeats 1000000 in
theorem Lists_any (A : Option Addr) (n c : Nat) (rows : List (Option Addr × Nat × Nat)) (bss : List (List UInt8)) (w : World) (hn : n ≤ 1000) (hl : ∀ bs ∈ bss, bs.length ≤ 1000) (hA : RowsB w w.heap.size A n rows bss) :
    Calls Try.prog 11 #[.slice A n c] w fun e w' => RowsOut w w' e (bss.map ints) := by
  have hlen : bss.length = n := hA.len
  obtain ⟨i0, hi, hz0, hz1, hz2⟩ := info_parts infoRowA
  have hI := Lib.hid (fun (A' : Option Addr) (n' c' : Nat) (bs : List UInt8) (w' : World) (h1 : n' ≤ 1000) (h : Byts w' w'.heap.size A' n' bs) => Ints_any A' n' c' w'.heap.size bs w' (by omega) (Nat.le_refl _) h)
  have hlh := Lib.hid hl
  clear hl
  go_enter Try.func11, Try.ntmps11
  go_wp2
  go_loopw [3, 4] (fun so si wr => ∃ (k : Nat) (v : Value) (rs : List (Option Addr × Nat × Nat)), k ≤ n ∧ si = .int .i64 k ∧ v = so ∧ rs.length = k ∧ Hid (RowsIn w wr v (fun _ => False) rs ((bss.take k).map ints)) ∧ Below w.heap.size w wr) (fun _ si _ => n - (intOf si).toNat)
  case atStart => exact ⟨0, _, [], Nat.zero_le _, rfl, rfl, rfl, Lib.hid ⟨World.ownsRow_nil _ _ _ _, rfl, fun k r xs h => by simp at h⟩, Below.refl _ _⟩
  case round =>
    obtain ⟨k, v, rs, hk, rfl, rfl, hrl, hR, hBe⟩ := hrel
    obtain ⟨wo, rfl⟩ : ∃ wo : World, wo = wr := ⟨_, rfl⟩
    have hrlh := Lib.hid hrl
    clear hrl
    by_cases hlt : k < n
    · obtain ⟨b, o, A', n', c', bs, rfl, hb, hbs, hc, hnc, hcm, hby⟩ := (hA.up hBe).at_ (k := k) hlt
      have hbl : n' ≤ 1000 := by have := hlh.out bs (List.mem_of_getElem? hbs); have := hby.len; omega
      have hcall := Lib.hid (hI.out A' n' c' bs wo hbl hby)
      have hki : (k : Int) < (n : Int) := by omega
      have htk : Hid ((bss.take (k + 1)).map ints = (bss.take k).map ints ++ [ints bs]) := Lib.hid (by rw [take_at hbs, List.map_append]; rfl)
      have hmax : Hid (k + 1 ≤ maxLen ∧ (k + 1) * 24 ≤ 140737488355328) := Lib.hid ⟨by unfold maxLen; omega, by omega⟩
      have hso := hBe.size
      have hbyh := Lib.hid hby.len
      clear hby hnc hcm hbs
      go_wp2_with (first
        | (go_at_call 14; refine hcall.out.mono ?_; rintro e w1 ⟨u, rfl, hu, hb1⟩; have hRk := hR.out.kept hb1.size (fun k hk _ => hb1.block k hk) (fun _ _ h => h); obtain ⟨A1, c1, rfl, q1, q2, q3⟩ := nums_of_own hu; have hown := hRk.own; rw [hrlh.out] at hown; have hB2 := hBe.trans (hb1.mono hso); have hso2 := hB2.size; have huh := Lib.hid hu; have hRkh := Lib.hid hRk; clear hu hRk)
        | (at_builtin; refine wpList_append_own_at _ rfl _ _ 27 rfl w.heap.size 26 i0 (.slice none 0 0) 1 24 Try.underlying27 hi hz0 hz1 hz2 rfl (by decide) v k _ rfl (hown.alloc _) ⟨w1.heap.size, 0, none⟩ 1 1 [.slice A1 (ints bs).length c1] rfl rfl (cell_one_new _ _ _) (by simp [Value.oneCell']) hmax.out.1 hmax.out.2 (by simp; omega) ?_; intro v' w2 hown2 hg2 hnil2 hloc2; clear hnil2))
      have hput := hRkh.out.put (r := (A1, (ints bs).length, c1)) (xs := ints bs) q1 q2 q3 (fun _ q o e => ⟨fun e2 => by
        subst e
        have h1 := (huh.out.lt q rfl).1
        have h2 := (hR.out.own.lt q e2).2
        omega, fun h => h⟩) (by rw [hrlh.out]; exact hown2) hg2 hloc2
      go_roundw
      case rel => exact ⟨k + 1, v', rs ++ [(A1, (ints bs).length, c1)], by omega, by go_num, rfl, by simp [hrlh.out], Lib.hid (by rw [htk.out]; exact hput), (hB2.alloc hso2 _).grown hg2 (by simp; omega) (fun j e => (hown.lt j e).1)⟩
      case measure => simp [intOf] <;> omega
    · obtain rfl : k = n := by omega
      go_wp2
      go_ret
      refine ⟨_, rs, rfl, ?_, hBe⟩
      have := hR.out
      rwa [List.take_of_length_le (by omega)] at this

/-- A base, and sides, that are few. -/
def fewD (base : List UInt8) (sides : List (List UInt8)) : Prop := base.length ≤ 30 ∧ 1 ≤ sides.length ∧ sides.length ≤ 6 ∧ ∀ s ∈ sides, s.length ≤ 30

set_option maxHeartbeats 1000000 in
theorem Few_any (A : Option Addr) (n c : Nat) (base : List UInt8) (A' : Option Addr) (n' c' : Nat) (rows : List (Option Addr × Nat × Nat)) (bss : List (List UInt8)) (w : World) (hn : n ≤ maxLen) (hn' : n' ≤ maxLen) (hA : Byts w w.heap.size A n base) (hA' : RowsB w w.heap.size A' n' rows bss) :
    ∀ fb : Bool, (fb = true ↔ fewD base bss) → Calls Try.prog 9 #[.slice A n c, .slice A' n' c'] w fun e w' => e = .returned (.bool fb) ∧ w = w' := by
  intro fb hfb
  have hl : base.length = n := hA.len
  have hlen : bss.length = n' := hA'.len
  unfold maxLen at hn hn'
  have hfh := Lib.hid hfb
  clear hfb
  go_enter Try.func9, Try.ntmps9
  go_wp2
  go_loop [5] (fun si => ∃ k : Nat, k ≤ n' ∧ k ≤ 7 ∧ si = .int .i64 k ∧ Hid (∀ s ∈ bss.take k, s.length ≤ 30)) (fun si => n' - (intOf si).toNat)
  case atStart => exact ⟨0, Nat.zero_le _, by omega, rfl, Lib.hid (by simp)⟩
  case round =>
    obtain ⟨k, hk, hk7, rfl, hq⟩ := hrel
    by_cases hlt : k < n'
    · by_cases h7 : k < 7
      · obtain ⟨b, o, A1, n1, c1, bs, rfl, hb, hbs, hc, hnc, hcm, hby⟩ := hA'.at_ (k := k) hlt
        have hki : (k : Int) < (n' : Int) := by omega
        have hk7i : (k : Int) < 7 := by omega
        have hbl := hby.len
        by_cases h30 : 30 < n1
        · have hff : fb = false := by
            cases fb with
            | false => rfl
            | true =>
              have := (hfh.out.1 rfl).2.2.2 bs (List.mem_of_getElem? hbs)
              omega
          subst hff
          clear hby hbs
          go_wp2
          go_ret
          exact ⟨rfl, rfl⟩
        · have hq2 : Hid (∀ s ∈ bss.take (k + 1), s.length ≤ 30) := Lib.hid (by
            intro s hs
            rw [take_at hbs] at hs
            rcases List.mem_append.1 hs with h | h
            · exact hq.out s h
            · simp at h; subst h; omega)
          clear hby hbs
          go_wp2
          go_round
          case rel => exact ⟨k + 1, by omega, by omega, by go_num, hq2⟩
          case measure => simp [intOf] <;> omega
      · have hff : fb = false := by
          cases fb with
          | false => rfl
          | true =>
            have := (hfh.out.1 rfl).2.2.1
            omega
        subst hff
        have hki : (k : Int) < (n' : Int) := by omega
        have hk7i : ¬ (k : Int) < 7 := by omega
        by_cases g1 : n ≤ 30
        · have g2 : (1 : Int) ≤ (n' : Int) := by omega
          have g3 : ¬ (n' : Int) ≤ 6 := by omega
          go_wp2
          go_ret
          exact ⟨rfl, rfl⟩
        · have g1' : decide ((n : Int) ≤ 30) = false := by simp; omega
          go_wp2
          go_ret
          exact ⟨rfl, rfl⟩
    · have hkn : k = n' := by omega
      have hall : ∀ s ∈ bss, s.length ≤ 30 := by have := hq.out; rwa [List.take_of_length_le (by omega)] at this
      have hkf : decide ((k : Int) < (n' : Int)) = false := by simp; omega
      clear hkn
      by_cases g1 : n ≤ 30
      · have g1i : (n : Int) ≤ 30 := by omega
        by_cases g2 : 1 ≤ n'
        · have g2i : (1 : Int) ≤ (n' : Int) := by omega
          by_cases g3 : n' ≤ 6
          · have hff : fb = true := hfh.out.2 ⟨by omega, by omega, by omega, hall⟩
            subst hff
            have g3i : (n' : Int) ≤ 6 := by omega
            clear hall
            go_wp2
            go_ret
            exact ⟨rfl, rfl⟩
          · have hff : fb = false := by
              cases fb with
              | false => rfl
              | true => have := (hfh.out.1 rfl).2.2.1; omega
            subst hff
            have g3i : ¬ (n' : Int) ≤ 6 := by omega
            clear hall
            go_wp2
            go_ret
            exact ⟨rfl, rfl⟩
        · have hff : fb = false := by
            cases fb with
            | false => rfl
            | true => have := (hfh.out.1 rfl).2.1; omega
          subst hff
          have g2i : decide ((1 : Int) ≤ (n' : Int)) = false := by simp; omega
          clear hall
          go_wp2
          go_ret
          exact ⟨rfl, rfl⟩
      · have hff : fb = false := by
          cases fb with
          | false => rfl
          | true => have := (hfh.out.1 rfl).1; omega
        subst hff
        have g1i : decide ((n : Int) ≤ 30) = false := by simp; omega
        clear hall
        go_wp2
        go_ret
        exact ⟨rfl, rfl⟩
end Go.Proofs.Ytijinhhlikhjfaa
