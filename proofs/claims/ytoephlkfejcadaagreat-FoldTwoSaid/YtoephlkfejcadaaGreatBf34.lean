/- Proved here: texts joined: LcsCon, Once, LcsPair. -/
import Derived.Test.YtoephlkfejcadaaGreatBf01
import Derived.Test.YtoephlkfejcadaaGreatBf02
import Derived.Test.YtoephlkfejcadaaGreatBf33
import Derived.Test.YtoephlkfejcadaaGreatChecked
import Derived.Tactics
import Derived.Tactics2
import Derived.Defers
import Derived.Laws.Pointers
import Derived.Laws.LoneSync
import Derived.Laws.NewBlocks
import Derived.RegionTactic
import Derived.RegionCalls
import Derived.ChangeAlike
import Derived.Outline
/- What the statements of layer 3 ask of package lcs, one by one: words alone. -/
namespace Go.Proofs.YtoephlkfejcadaaGreat
open Go.RowKit
set_option linter.unusedVariables false

section
variable (Pr : World → Nat → (Nat → Prop) → List Int → List Int → Prop)
/-- Behind a call that touches blocks of F alone, block T is the pair of a and b. -/
def PrAfter (w w' : World) (T : Nat) (F : Nat → Prop) (a b : List Int) : Prop := ∃ F', Pr w' T F' a b ∧ But F w w' ∧ ∀ k, F' k → F k ∨ w.heap.size ≤ k
/-- What New tells of two lists that may be. -/
def NewOut (w w' : World) (e : Ending) (a b : List Int) : Prop := ∃ T F, e = .returned (.tuple #[.pointer (some ⟨T, 0, none⟩), .int .i64 0]) ∧ Pr w' T F a b ∧ (∀ k, F k → w.heap.size ≤ k) ∧ Below w.heap.size w w'
/-- What Match tells. -/
def MatchOut (w w' : World) (e : Ending) (T : Nat) (F : Nat → Prop) (a b : List Int) : Prop :=
  ∃ A n c F', e = .returned (.slice A n c) ∧ n = a.length ∧ n ≤ c ∧ c ≤ maxLen ∧ Nums w' w'.heap.size A n (mt a b 0) ∧ (∀ q o, A = some ⟨q, o, none⟩ → ¬ F' q) ∧ Pr w' T F' a b ∧ But F w w' ∧ ∀ k, F' k → F k ∨ w.heap.size ≤ k

end
end Go.Proofs.YtoephlkfejcadaaGreat
/- Proved here: contracts of sync.Once's Do in a run of one goroutine, whatever function is handed to it (by that function's own contract): done already; the first time. -/
namespace Go.Proofs.YtoephlkfejcadaaGreat
open Go.RowKit
set_option linter.unusedVariables false
set_option maxRecDepth 100000

theorem once_disable (w : World) : (callFunc 133 #[]).run Tryz.prog w = .ok (.value (.tuple #[])) w := run_call_mark0 Tryz.func133 (by kernel_rfl) (by kernel_rfl) (by kernel_rfl) .disable (by kernel_rfl) w
theorem once_enable (w : World) : (callFunc 135 #[]).run Tryz.prog w = .ok (.value (.tuple #[])) w := run_call_mark0 Tryz.func135 (by kernel_rfl) (by kernel_rfl) (by kernel_rfl) .enable (by kernel_rfl) w
theorem once_acquire (a : Addr) (w : World) : (callFunc 136 #[.pointer (some a)]).run Tryz.prog w = .ok (.value (.tuple #[])) w := run_call_marked Tryz.func136 (by kernel_rfl) (by kernel_rfl) (by kernel_rfl) .acquire (by kernel_rfl) a w
theorem once_release (a : Addr) (w : World) : (callFunc 138 #[.pointer (some a)]).run Tryz.prog w = .ok (.value (.tuple #[])) w := run_call_marked Tryz.func138 (by kernel_rfl) (by kernel_rfl) (by kernel_rfl) .releaseMerge (by kernel_rfl) a w

theorem store_deferred (a : Addr) (x : Value) (u : FrameMode) (w : World) (hc : w.cell? a = some x) (hz : w.frozen? a = false) :
    CallsD Tryz.prog 115 #[.pointer (some a), .bool true] u w fun e u' w' => u' = u ∧ (e = .returned (.tuple #[]) ∧ w' = w.drew.setCell a (.int .u32 1)) := by
  have hc' : w.drew.cell? a = some x := by go_simp
  have hz' : w.drew.frozen? a = false := by go_simp
  have hst := run_call_store (P := Tryz.prog) Tryz.func127 (by kernel_rfl) (by kernel_rfl) (by kernel_rfl) (by kernel_rfl) (k := .u32) (y := 1) hc' hz'
  go_enter_d Tryz.func115, Tryz.ntmps115
  go_wp2
  go_region_calls
  all_goals (go_end0; exact ⟨rfl, rfl⟩)

theorem unlock_deferred (a : Addr) (u : FrameMode) (w : World) (hc : w.cell? a = some (.int .i32 1)) (hz : w.frozen? a = false) :
    CallsD Tryz.prog 114 #[.pointer (some a)] u w fun e u' w' => u' = u ∧ (e = .returned (.tuple #[]) ∧ w' = w.setCell a (.int .i32 0)) := by
  have hd := once_disable
  have he := once_enable
  have hr := once_release
  have hadd := run_call_add (P := Tryz.prog) Tryz.func139 (by kernel_rfl) (by kernel_rfl) (by kernel_rfl) .i32 (by kernel_rfl) (y := -1) (s := 0) hc hz (by simp [go_sem]; rfl)
  have hcv := run_convert_to_unsafe (P := Tryz.prog) (src := 184) (dst := 188) Tryz.underlying184 Tryz.underlying188 (by kernel_rfl) hc
  go_enter_d Tryz.func114, Tryz.ntmps114
  go_wp2
  go_end0
  go_wp2
  go_end0
  exact ⟨rfl, rfl⟩

theorem lock_free (a : Addr) (w : World) (hc : w.cell? a = some (.int .i32 0)) (hz : w.frozen? a = false) :
    Calls Tryz.prog 113 #[.pointer (some a)] w fun e w' => e = .returned (.tuple #[]) ∧ w' = w.setCell a (.int .i32 1) := by
  have hd := once_disable
  have he := once_enable
  have ha := once_acquire
  have hcas := run_call_cas_hit (P := Tryz.prog) Tryz.func134 (by kernel_rfl) (by kernel_rfl) (by kernel_rfl) .i32 (by kernel_rfl) (y := 1) hc hz
  have hc' : (w.setCell a (.int .i32 1)).cell? a = some (.int .i32 1) := World.cell?_setCell_same w a _ hc
  have hcv := run_convert_to_unsafe (P := Tryz.prog) (src := 184) (dst := 188) Tryz.underlying184 Tryz.underlying188 (by kernel_rfl) hc'
  go_enter Tryz.func113, Tryz.ntmps113
  go_wp2
  first | go_end0 | (simp only [Exit.inBlock, Exit.then]; refine bodyPost_ret (results_none rfl _ _ _) rfl ?_) | refine bodyPost_ret (results_none rfl _ _ _) rfl ?_
  go_wp2
  go_end0
  exact ⟨rfl, rfl⟩

/-- Behind Do, the first time: the function has left a world of which Post holds; then 'done' was stored, and the lock let go. -/
def OnceEnd (b off : Nat) (Post : World → Prop) (e : Ending) (w' : World) : Prop :=
  e = .returned (.tuple #[]) ∧ ∃ w2, Post w2 ∧ w' = (w2.drew.setCell ⟨b, off, none⟩ (.int .u32 1)).setCell ⟨b, off + 1, none⟩ (.int .i32 0)

set_option maxRecDepth 100000 in
set_option maxHeartbeats 1600000 in
theorem slow_of (b off : Nat) (g : FuncId) (x : Value) (w : World) (Post : World → Prop)
    (h0 : w.cell? ⟨b, off, none⟩ = some (.int .u32 0)) (h1 : w.cell? ⟨b, off + 1, none⟩ = some (.int .i32 0)) (f0 : w.frozen? ⟨b, off, none⟩ = false) (f1 : w.frozen? ⟨b, off + 1, none⟩ = false)
    (hg : ∀ w : World, (callFunc g #[x]).run Tryz.prog w = .ok (.enter g #[x]) w)
    (hf : Calls Tryz.prog g #[x] (w.setCell ⟨b, off + 1, none⟩ (.int .i32 1)) fun e w' => e = .returned (.tuple #[]) ∧ Post w')
    (hp : ∀ w', Post w' → w'.cell? ⟨b, off, none⟩ = some (.int .u32 0) ∧ w'.cell? ⟨b, off + 1, none⟩ = some (.int .i32 1) ∧ w'.frozen? ⟨b, off, none⟩ = false ∧ w'.frozen? ⟨b, off + 1, none⟩ = false) :
    Calls Tryz.prog 96 #[.pointer (some ⟨b, off, none⟩), .func (.func g) #[x] #[]] w fun e w' => OnceEnd b off Post e w' := by
  have hl := run_call_load (P := Tryz.prog) Tryz.func112 (by kernel_rfl) (by kernel_rfl) (by kernel_rfl) .u32 (by kernel_rfl) (w := w.setCell ⟨b, off + 1, none⟩ (.int .i32 1)) (a := ⟨b, off, none⟩) (x := 0) ((World.cell?_setCell_other _ ⟨b, off + 1, none⟩ ⟨b, off, none⟩ _ (by simp)).trans h0)
  have hnot : ∀ (x : Bool) (w : World), (Op.unary .not (.bool x)).run Tryz.prog w = .ok (.bool (!x)) w := fun _ _ => rfl
  have hp' := Lib.hid hp
  have hf' := Lib.hid hf
  clear hp hf
  go_enter_defers Tryz.func96, Tryz.ntmps96
  go_wp2_with (first
    | (go_at_call 113; refine (lock_free ⟨b, off + 1, none⟩ _ (by go_simp) (by go_simp)).mono ?_; rintro e w' ⟨rfl, rfl⟩)
    | (go_at_call 95; go_in))
  refine hf'.out.mono ?_
  rintro e w2 ⟨rfl, hP⟩
  obtain ⟨q0, q1, z0, z1⟩ := hp'.out w2 hP
  have hP' := Lib.hid hP
  clear hP
  go_wp2
  refine leaves_cons (f := 115) (args := #[.pointer (some ⟨b, off, none⟩), .bool true]) (by simp) (by simp [go_sem]) ?_
  refine (store_deferred ⟨b, off, none⟩ (.int .u32 0) .returning _ q0 z0).mono ?_
  rintro e u' w'' ⟨rfl, rfl, rfl⟩
  refine leaves_cons (f := 114) (args := #[.pointer (some ⟨b, off + 1, none⟩)]) (by simp [settle]) (by simp [go_sem]) ?_
  refine (unlock_deferred ⟨b, off + 1, none⟩ _ _ ?_ ?_).mono ?_
  · exact (World.cell?_setCell_other _ ⟨b, off, none⟩ ⟨b, off + 1, none⟩ _ (by simp)).trans q1
  · exact (World.frozen?_setCell _ _ _ _).trans z1
  rintro e u' w'' ⟨rfl, rfl, rfl⟩
  have hend : OnceEnd b off Post (.returned (.tuple #[])) ((w2.drew.setCell ⟨b, off, none⟩ (.int .u32 1)).setCell ⟨b, off + 1, none⟩ (.int .i32 0)) := ⟨rfl, w2, hP'.out, rfl⟩
  simpa [Go.Leaves, settle, results, Tryz.results96] using hend

set_option maxRecDepth 100000 in
set_option maxHeartbeats 1600000 in
/-- Do, the first time, the lock free: whatever function 'g' with the one bound value x (a method value) is handed in. -/
theorem do_first (b off : Nat) (g : FuncId) (x : Value) (w : World) (Post : World → Prop)
    (h0 : w.cell? ⟨b, off, none⟩ = some (.int .u32 0)) (h1 : w.cell? ⟨b, off + 1, none⟩ = some (.int .i32 0)) (f0 : w.frozen? ⟨b, off, none⟩ = false) (f1 : w.frozen? ⟨b, off + 1, none⟩ = false)
    (hg : ∀ w : World, (callFunc g #[x]).run Tryz.prog w = .ok (.enter g #[x]) w)
    (hf : Calls Tryz.prog g #[x] (w.setCell ⟨b, off + 1, none⟩ (.int .i32 1)) fun e w' => e = .returned (.tuple #[]) ∧ Post w')
    (hp : ∀ w', Post w' → w'.cell? ⟨b, off, none⟩ = some (.int .u32 0) ∧ w'.cell? ⟨b, off + 1, none⟩ = some (.int .i32 1) ∧ w'.frozen? ⟨b, off, none⟩ = false ∧ w'.frozen? ⟨b, off + 1, none⟩ = false) :
    Calls Tryz.prog 64 #[.pointer (some ⟨b, off, none⟩), .func (.func g) #[x] #[]] w fun e w' => OnceEnd b off Post e w' := by
  have hs := Lib.hid (slow_of b off g x w Post h0 h1 f0 f1 hg hf hp)
  have hl := run_call_load (P := Tryz.prog) Tryz.func112 (by kernel_rfl) (by kernel_rfl) (by kernel_rfl) .u32 (by kernel_rfl) h0
  have hnot : ∀ (x : Bool) (w : World), (Op.unary .not (.bool x)).run Tryz.prog w = .ok (.bool (!x)) w := fun _ _ => rfl
  clear hf hp hg
  go_enter Tryz.func64, Tryz.ntmps64
  go_wp2_with (first
    | (go_at_call 96; refine hs.out.mono ?_; rintro e w' ⟨rfl, w2, hP, hw⟩; have hend : OnceEnd b off Post (.returned (.tuple #[])) w' := ⟨rfl, w2, hP, hw⟩; have hend' := Lib.hid hend; clear hend hP hw)
    | (go_at_call 95; go_in))
  go_end0
  exact hend'.out

set_option maxRecDepth 100000 in
set_option maxHeartbeats 1600000 in
theorem slow_ofC (b off : Nat) (g : FuncId) (x : Value) (w : World) (Post : World → Prop)
    (h0 : w.cell? ⟨b, off, none⟩ = some (.int .u32 0)) (h1 : w.cell? ⟨b, off + 1, none⟩ = some (.int .i32 0)) (f0 : w.frozen? ⟨b, off, none⟩ = false) (f1 : w.frozen? ⟨b, off + 1, none⟩ = false)
    (hg : ∀ w : World, (callFunc g #[x]).run Tryz.prog w = .ok (.enter g #[x]) w)
    (hf : Calls Tryz.prog g #[x] (w.setCell ⟨b, off + 1, none⟩ (.int .i32 1)) fun e w' => e = .returned (.tuple #[]) ∧ Post w')
    (hp : ∀ w', Post w' → w'.cell? ⟨b, off, none⟩ = some (.int .u32 0) ∧ w'.cell? ⟨b, off + 1, none⟩ = some (.int .i32 1) ∧ w'.frozen? ⟨b, off, none⟩ = false ∧ w'.frozen? ⟨b, off + 1, none⟩ = false) :
    Calls Tryz.prog 96 #[.pointer (some ⟨b, off, none⟩), .func (.func g) #[] #[x]] w fun e w' => OnceEnd b off Post e w' := by
  have hl := run_call_load (P := Tryz.prog) Tryz.func112 (by kernel_rfl) (by kernel_rfl) (by kernel_rfl) .u32 (by kernel_rfl) (w := w.setCell ⟨b, off + 1, none⟩ (.int .i32 1)) (a := ⟨b, off, none⟩) (x := 0) ((World.cell?_setCell_other _ ⟨b, off + 1, none⟩ ⟨b, off, none⟩ _ (by simp)).trans h0)
  have hnot : ∀ (x : Bool) (w : World), (Op.unary .not (.bool x)).run Tryz.prog w = .ok (.bool (!x)) w := fun _ _ => rfl
  have hp' := Lib.hid hp
  have hf' := Lib.hid hf
  clear hp hf
  go_enter_defers Tryz.func96, Tryz.ntmps96
  go_wp2_with (first
    | (go_at_call 113; refine (lock_free ⟨b, off + 1, none⟩ _ (by go_simp) (by go_simp)).mono ?_; rintro e w' ⟨rfl, rfl⟩)
    | (go_at_call 95; go_in))
  refine hf'.out.mono ?_
  rintro e w2 ⟨rfl, hP⟩
  obtain ⟨q0, q1, z0, z1⟩ := hp'.out w2 hP
  have hP' := Lib.hid hP
  clear hP
  go_wp2
  refine leaves_cons (f := 115) (args := #[.pointer (some ⟨b, off, none⟩), .bool true]) (by simp) (by simp [go_sem]) ?_
  refine (store_deferred ⟨b, off, none⟩ (.int .u32 0) .returning _ q0 z0).mono ?_
  rintro e u' w'' ⟨rfl, rfl, rfl⟩
  refine leaves_cons (f := 114) (args := #[.pointer (some ⟨b, off + 1, none⟩)]) (by simp [settle]) (by simp [go_sem]) ?_
  refine (unlock_deferred ⟨b, off + 1, none⟩ _ _ ?_ ?_).mono ?_
  · exact (World.cell?_setCell_other _ ⟨b, off, none⟩ ⟨b, off + 1, none⟩ _ (by simp)).trans q1
  · exact (World.frozen?_setCell _ _ _ _).trans z1
  rintro e u' w'' ⟨rfl, rfl, rfl⟩
  have hend : OnceEnd b off Post (.returned (.tuple #[])) ((w2.drew.setCell ⟨b, off, none⟩ (.int .u32 1)).setCell ⟨b, off + 1, none⟩ (.int .i32 0)) := ⟨rfl, w2, hP'.out, rfl⟩
  simpa [Go.Leaves, settle, results, Tryz.results96] using hend

set_option maxRecDepth 100000 in
set_option maxHeartbeats 1600000 in
/-- Do, the first time, the lock free: whatever function 'g' with the one bound value x (a closure that has captured x) is handed in. -/
theorem do_firstC (b off : Nat) (g : FuncId) (x : Value) (w : World) (Post : World → Prop)
    (h0 : w.cell? ⟨b, off, none⟩ = some (.int .u32 0)) (h1 : w.cell? ⟨b, off + 1, none⟩ = some (.int .i32 0)) (f0 : w.frozen? ⟨b, off, none⟩ = false) (f1 : w.frozen? ⟨b, off + 1, none⟩ = false)
    (hg : ∀ w : World, (callFunc g #[x]).run Tryz.prog w = .ok (.enter g #[x]) w)
    (hf : Calls Tryz.prog g #[x] (w.setCell ⟨b, off + 1, none⟩ (.int .i32 1)) fun e w' => e = .returned (.tuple #[]) ∧ Post w')
    (hp : ∀ w', Post w' → w'.cell? ⟨b, off, none⟩ = some (.int .u32 0) ∧ w'.cell? ⟨b, off + 1, none⟩ = some (.int .i32 1) ∧ w'.frozen? ⟨b, off, none⟩ = false ∧ w'.frozen? ⟨b, off + 1, none⟩ = false) :
    Calls Tryz.prog 64 #[.pointer (some ⟨b, off, none⟩), .func (.func g) #[] #[x]] w fun e w' => OnceEnd b off Post e w' := by
  have hs := Lib.hid (slow_ofC b off g x w Post h0 h1 f0 f1 hg hf hp)
  have hl := run_call_load (P := Tryz.prog) Tryz.func112 (by kernel_rfl) (by kernel_rfl) (by kernel_rfl) .u32 (by kernel_rfl) h0
  have hnot : ∀ (x : Bool) (w : World), (Op.unary .not (.bool x)).run Tryz.prog w = .ok (.bool (!x)) w := fun _ _ => rfl
  clear hf hp hg
  go_enter Tryz.func64, Tryz.ntmps64
  go_wp2_with (first
    | (go_at_call 96; refine hs.out.mono ?_; rintro e w' ⟨rfl, w2, hP, hw⟩; have hend : OnceEnd b off Post (.returned (.tuple #[])) w' := ⟨rfl, w2, hP, hw⟩; have hend' := Lib.hid hend; clear hend hP hw)
    | (go_at_call 95; go_in))
  go_end0
  exact hend'.out

set_option maxHeartbeats 400000 in
/-- Do, done already: nothing is called. -/
theorem do_done (a : Addr) (d : Int) (hd : ¬ d = 0) (fv : Value) (w : World) (h0 : w.cell? a = some (.int .u32 d)) :
    Calls Tryz.prog 64 #[.pointer (some a), fv] w fun e w' => e = .returned (.tuple #[]) ∧ w' = w := by
  have hl := run_call_load (P := Tryz.prog) Tryz.func112 (by kernel_rfl) (by kernel_rfl) (by kernel_rfl) .u32 (by kernel_rfl) h0
  have hnot : ∀ (x : Bool) (w : World), (Op.unary .not (.bool x)).run Tryz.prog w = .ok (.bool (!x)) w := fun _ _ => rfl
  have hd' : (d != 0) = true := by simp [hd]
  go_enter Tryz.func64, Tryz.ntmps64
  go_wp2
  go_end0
  exact ⟨rfl, rfl⟩
end Go.Proofs.YtoephlkfejcadaaGreat
/- Proved here: the contracts of package lcs: New, Match (and reckon, which sync.Once calls once). -/
namespace Go.Proofs.YtoephlkfejcadaaGreat
open Go.RowKit
set_option linter.unusedVariables false
set_option maxRecDepth 100000

theorem cells_set {w : World} {T j : Nat} {C : Array Value} {t : TypeId} (x : Value) (h : w.heap[T]? = some (.cells C t (0, 0))) : (w.setCell ⟨T, j, none⟩ x).heap[T]? = some (.cells (C.setIfInBounds j x) t (0, 0)) := by
  simp [World.setCell, Array.getElem?_modify, h]

/-- Block T is a pair that was reckoned (o0, o1, o2: its Once). -/
def DoneAt (w : World) (T : Nat) (o0 o1 o2 : Value) (a b : List Int) : Prop :=
  ∃ M c, w.heap[T]? = some (.cells #[.slice none 0 0, .slice none 0 0, o0, o1, o2, .int .i64 (lcsL a b), .slice M a.length c] 124 (0, 0)) ∧ Nums w w.heap.size M a.length (mt a b 0) ∧ ∀ q o, M = some ⟨q, o, none⟩ → q ≠ T
/-- Block T is a pair that wasn't reckoned yet. -/
def NewAt (w : World) (T : Nat) (o0 o1 o2 : Value) (a b : List Int) : Prop :=
  ∃ A c A' c' l m, w.heap[T]? = some (.cells #[.slice A a.length c, .slice A' b.length c', o0, o1, o2, l, m] 124 (0, 0)) ∧ Nums w w.heap.size A a.length a ∧ Nums w w.heap.size A' b.length b ∧ (∀ q o, A = some ⟨q, o, none⟩ → q ≠ T) ∧ ∀ q o, A' = some ⟨q, o, none⟩ → q ≠ T

section
variable {w w' : World} {T : Nat} {o0 o1 o2 : Value} {a b : List Int}
theorem nums_apart {A : Option Addr} {n : Nat} {xs : List Int} (h : Nums w w.heap.size A n xs) (hs : w.heap.size ≤ w'.heap.size) (hk : ∀ k, k < w.heap.size → k ≠ T → w'.heap[k]? = w.heap[k]?) (hne : ∀ q o, A = some ⟨q, o, none⟩ → q ≠ T) : Nums w' w'.heap.size A n xs := by
  refine ⟨h.1, fun hn => ?_⟩
  obtain ⟨q, o, rfl, hlt, hc⟩ := h.2 hn
  exact ⟨q, o, rfl, by omega, fun j u hu => (World.cell?_of_block (w := w) (hk q hlt (hne q o rfl))).trans (hc j u hu)⟩
theorem DoneAt.lt (h : DoneAt w T o0 o1 o2 a b) : T < w.heap.size := by obtain ⟨_, _, h, _⟩ := h; exact (Array.getElem?_eq_some_iff.1 h).1
theorem NewAt.lt (h : NewAt w T o0 o1 o2 a b) : T < w.heap.size := by obtain ⟨_, _, _, _, _, _, h, _⟩ := h; exact (Array.getElem?_eq_some_iff.1 h).1
theorem DoneAt.below (h : DoneAt w T o0 o1 o2 a b) (hb : Below w.heap.size w w') : DoneAt w' T o0 o1 o2 a b := by
  have hlt := h.lt
  obtain ⟨M, c, h1, h2, h3⟩ := h
  exact ⟨M, c, (hb.block T hlt).trans h1, (h2.below hb).more hb.size, h3⟩
theorem NewAt.below (h : NewAt w T o0 o1 o2 a b) (hb : Below w.heap.size w w') : NewAt w' T o0 o1 o2 a b := by
  have hlt := h.lt
  obtain ⟨A, c, A', c', l, m, h1, h2, h3, h4, h5⟩ := h
  exact ⟨A, c, A', c', l, m, (hb.block T hlt).trans h1, (h2.below hb).more hb.size, (h3.below hb).more hb.size, h4, h5⟩
end

/-- What reckon leaves. -/
def RecOut (w w' : World) (T : Nat) (o0 o1 o2 : Value) (a b : List Int) : Prop := DoneAt w' T o0 o1 o2 a b ∧ But (fun k => k = T) w w'

theorem rec_fin {w w1 w2 : World} {T : Nat} {o0 o1 o2 l m sA sB : Value} {a b : List Int} {C : Array Value} {M : Option Addr} {c : Nat} (hT : w.heap[T]? = some (.cells #[sA, sB, o0, o1, o2, l, m] 124 (0, 0)))
    (h1 : Below w.heap.size w w1) (h2 : Below w1.heap.size w1 w2) (hM : Nums w2 w2.heap.size M a.length (mt a b 0)) (hne : ∀ q o, M = some ⟨q, o, none⟩ → q ≠ T) :
    RecOut w ((((w2.setCell ⟨T, 5, none⟩ (.int .i64 (lcsL a b))).setCell ⟨T, 6, none⟩ (.slice M a.length c)).setCell ⟨T, 0, none⟩ (.slice none 0 0)).setCell ⟨T, 1, none⟩ (.slice none 0 0)) T o0 o1 o2 a b := by
  have hlt : T < w.heap.size := (Array.getElem?_eq_some_iff.1 hT).1
  have hT2 : w2.heap[T]? = some (.cells #[sA, sB, o0, o1, o2, l, m] 124 (0, 0)) := (h2.block T (Nat.lt_of_lt_of_le hlt h1.size)).trans ((h1.block T hlt).trans hT)
  have hb2 : But (fun k => k = T) w w2 := .of_below (h1.trans (h2.mono h1.size)) fun k hk _ => hk
  have s1 := But.setCell (F := fun k => k = T) w2 (p := ⟨T, 5, none⟩) rfl (.int .i64 (lcsL a b))
  have s2 := But.setCell (F := fun k => k = T) (w2.setCell ⟨T, 5, none⟩ (.int .i64 (lcsL a b))) (p := ⟨T, 6, none⟩) rfl (.slice M a.length c)
  have s3 := But.setCell (F := fun k => k = T) ((w2.setCell ⟨T, 5, none⟩ (.int .i64 (lcsL a b))).setCell ⟨T, 6, none⟩ (.slice M a.length c)) (p := ⟨T, 0, none⟩) rfl (.slice none 0 0)
  have s4 := But.setCell (F := fun k => k = T) (((w2.setCell ⟨T, 5, none⟩ (.int .i64 (lcsL a b))).setCell ⟨T, 6, none⟩ (.slice M a.length c)).setCell ⟨T, 0, none⟩ (.slice none 0 0)) (p := ⟨T, 1, none⟩) rfl (.slice none 0 0)
  have s := ((s1.trans s2 fun k e => .inl e).trans s3 fun k e => .inl e).trans s4 fun k e => .inl e
  refine ⟨⟨M, c, ?_, ?_, hne⟩, hb2.trans s fun k e => .inl e⟩
  · rw [cells_set _ (cells_set _ (cells_set _ (cells_set _ hT2)))]; rfl
  · exact nums_apart hM s.size (fun k hk hn => s.block k hk hn) hne

set_option maxRecDepth 100000 in
set_option maxHeartbeats 2000000 in
theorem reckon_any (T : Nat) (o0 o1 o2 : Value) (a b : List Int) (w : World) (hla : a.length ≤ 2000) (hlb : b.length ≤ 2000) (h : NewAt w T o0 o1 o2 a b) :
    Calls Tryz.prog 65 #[.pointer (some ⟨T, 0, none⟩)] w fun e w' => e = .returned (.tuple #[]) ∧ RecOut w w' T o0 o1 o2 a b := by
  have hlt := h.lt
  obtain ⟨A, c, A', c', l, m, hT, hA, hA', hne, hne'⟩ := h
  have c0 : w.cell? ⟨T, 0, none⟩ = some (.slice A a.length c) := by rw [cells_of hT]; rfl
  have c1 : w.cell? ⟨T, 1, none⟩ = some (.slice A' b.length c') := by rw [cells_of hT]; rfl
  have hcall := Lib.hid (meas_any A A' a.length b.length c c' w.heap.size w.heap.size a b w.drew hla hlb hA.drew hA'.drew (Nat.le_refl _) (Nat.le_refl _))
  have hfin := Lib.hid (fun w1 w2 M cM => rec_fin (w := w) (w1 := w1) (w2 := w2) (M := M) (c := cM) (a := a) (b := b) (C := #[]) hT)
  have hTh := Lib.hid hT
  go_enter Tryz.func65, Tryz.ntmps65
  go_upto_region 0 with fail
  go_cut [2, 3] (fun s2 s3 wx => ∃ S, s2 = .int .i64 (lcsL a b) ∧ s3 = .slice (some ⟨S, 0, none⟩) a.length a.length ∧ Skips wx (some ⟨S, 0, none⟩) a.length b.length a b ∧ Below w.heap.size w wx)
  case first =>
    go_region_with (go_at_call 97; refine hcall.out.mono ?_; rintro e w1 ⟨S, rfl, hS, hb⟩)
    all_goals (go_wp2_with fail; go_meet; exact ⟨S, rfl, rfl, hS, ⟨hb.os, hb.tape, hb.output, hb.size, hb.block⟩⟩)
  case rest =>
  obtain ⟨S, rfl, rfl, hS, hb⟩ := hcut
  have hT1 : wc.heap[T]? = some (.cells #[.slice A a.length c, .slice A' b.length c', o0, o1, o2, l, m] 124 (0, 0)) := (hb.block T hlt).trans hTh.out
  have hlt1 : T < wc.heap.size := Nat.lt_of_lt_of_le hlt hb.size
  have hw := walk_any A A' (some ⟨S, 0, none⟩) a.length b.length c c' a.length wc.heap.size wc.heap.size a b wc.drew hla hlb ((hA.below hb).more hb.size).drew ((hA'.below hb).more hb.size).drew (Nat.le_refl _) (Nat.le_refl _) (hS.below (Below.refl _ _).drew)
  have hw' : Calls Tryz.prog 98 #[.slice A a.length c, .slice A' b.length c', .slice (some ⟨S, 0, none⟩) a.length a.length] wc.drew fun e w2 =>
      e = .returned (.slice (some ⟨wc.heap.size, 0, none⟩) a.length a.length) ∧ (w2.cell? ⟨T, 0, none⟩ = some (.slice A a.length c) ∧ w2.cell? ⟨T, 1, none⟩ = some (.slice A' b.length c') ∧ w2.cell? ⟨T, 5, none⟩ = some l ∧ w2.cell? ⟨T, 6, none⟩ = some m ∧ ∀ k, w2.frozen? ⟨T, k, none⟩ = false) ∧
        Hid (RecOut w ((((w2.setCell ⟨T, 5, none⟩ (.int .i64 (lcsL a b))).setCell ⟨T, 6, none⟩ (.slice (some ⟨wc.heap.size, 0, none⟩) a.length a.length)).setCell ⟨T, 0, none⟩ (.slice none 0 0)).setCell ⟨T, 1, none⟩ (.slice none 0 0)) T o0 o1 o2 a b) :=
    hw.mono fun e w2 h => by
      obtain ⟨h1, h2, h3⟩ := h
      have hbw : Below wc.heap.size wc w2 := ⟨h3.os, h3.tape, h3.output, h3.size, h3.block⟩
      have hT2 := (hbw.block T hlt1).trans hT1
      refine ⟨h1, ⟨by rw [cells_of hT2]; rfl, by rw [cells_of hT2]; rfl, by rw [cells_of hT2]; rfl, by rw [cells_of hT2]; rfl, fun k => unfrozen_of hT2 k⟩, Lib.hid (hfin.out wc w2 _ _ hb hbw h2 fun q o e => ?_)⟩
      injection e with e
      injection e with e
      have e' : wc.heap.size = q := e
      omega
  have hw2 := Lib.hid hw'
  have d0 : wc.cell? ⟨T, 0, none⟩ = some (.slice A a.length c) := by rw [cells_of hT1]; rfl
  have d1 : wc.cell? ⟨T, 1, none⟩ = some (.slice A' b.length c') := by rw [cells_of hT1]; rfl
  clear hw hw' c0 c1 hT hfin hcall hTh hT1 hS hb hA hA'
  go_upto_region 1 with fail
  go_region_with (go_at_call 98; refine hw2.out.mono ?_; rintro e w2 ⟨rfl, ⟨g0, g1, g5, g6, gf⟩, hfin⟩)
  all_goals (go_wp2; go_end0)
  all_goals exact ⟨rfl, hfin.out⟩

theorem reckon_enter (x : Value) (w : World) : (callFunc 65 #[x]).run Tryz.prog w = .ok (.enter 65 #[x]) w := by
  have h1 : Tryz.f65.name ≠ "runtime.NumGoroutine" := by simpa using (show (Tryz.f65.name == "runtime.NumGoroutine") = false by kernel_rfl)
  simp [callFunc, Tryz.func65, h1, show Tryz.f65.body = some _ from rfl]

theorem DoneAt.once {w : World} {T : Nat} {o0 o1 o2 : Value} {a b : List Int} (x y : Value) (h : DoneAt w T o0 o1 o2 a b) : DoneAt ((w.drew.setCell ⟨T, 2, none⟩ x).setCell ⟨T, 3, none⟩ y) T x y o2 a b := by
  obtain ⟨M, c, h1, h2, h3⟩ := h
  have h1' : w.drew.heap[T]? = _ := h1
  have s1 := But.setCell (F := fun k => k = T) w.drew (p := ⟨T, 2, none⟩) rfl x
  have s2 := But.setCell (F := fun k => k = T) (w.drew.setCell ⟨T, 2, none⟩ x) (p := ⟨T, 3, none⟩) rfl y
  have s := s1.trans s2 fun k e => .inl e
  exact ⟨M, c, by rw [cells_set _ (cells_set _ h1')]; rfl, nums_apart (w := w) h2 s.size (fun k hk hn => s.block k hk hn) h3, h3⟩

/-- Block T is the pair of a and b: not reckoned yet, or reckoned. -/
def PairIs (w : World) (T : Nat) (F : Nat → Prop) (a b : List Int) : Prop :=
  (∀ k, F k ↔ k = T) ∧ a.length ≤ 2000 ∧ b.length ≤ 2000 ∧ (NewAt w T (.int .u32 0) (.int .i32 0) (.int .u32 0) a b ∨ DoneAt w T (.int .u32 1) (.int .i32 0) (.int .u32 0) a b)

/-- Behind the Once: the pair is reckoned. -/
def Reckoned (w w' : World) (e : Ending) (T : Nat) (a b : List Int) : Prop := e = .returned (.tuple #[]) ∧ DoneAt w' T (.int .u32 1) (.int .i32 0) (.int .u32 0) a b ∧ But (fun k => k = T) w w'

theorem pair_do (T : Nat) (F : Nat → Prop) (a b : List Int) (w : World) (h : PairIs w T F a b) :
    Calls Tryz.prog 64 #[.pointer (some ⟨T, 2, none⟩), .func (.func 65) #[.pointer (some ⟨T, 0, none⟩)] #[]] w fun e w' => Reckoned w w' e T a b := by
  obtain ⟨-, hla, hlb, h | h⟩ := h
  · have hlt := h.lt
    obtain ⟨A, c, A', c', l, m, hT, hA, hA', hne, hne'⟩ := h
    have s1 := But.setCell (F := fun k => k = T) w (p := ⟨T, 3, none⟩) rfl (.int .i32 1)
    have hN : NewAt (w.setCell ⟨T, 3, none⟩ (.int .i32 1)) T (.int .u32 0) (.int .i32 1) (.int .u32 0) a b :=
      ⟨A, c, A', c', l, m, by rw [cells_set _ hT]; rfl, nums_apart hA s1.size (fun k hk hn => s1.block k hk hn) hne, nums_apart hA' s1.size (fun k hk hn => s1.block k hk hn) hne', hne, hne'⟩
    refine (do_first T 2 65 (.pointer (some ⟨T, 0, none⟩)) w (fun w' => RecOut (w.setCell ⟨T, 3, none⟩ (.int .i32 1)) w' T (.int .u32 0) (.int .i32 1) (.int .u32 0) a b) (by rw [cells_of hT]; rfl) (by rw [cells_of hT]; rfl) (unfrozen_of hT _) (unfrozen_of hT _) (reckon_enter _) (reckon_any T _ _ _ a b _ hla hlb hN) ?_).mono ?_
    · rintro w' ⟨⟨M, cM, h1, -, -⟩, -⟩
      exact ⟨by rw [cells_of h1]; rfl, by rw [cells_of h1]; rfl, unfrozen_of h1 _, unfrozen_of h1 _⟩
    · rintro e w' ⟨rfl, w2, ⟨hD, hb⟩, rfl⟩
      have t1 := But.setCell (F := fun k => k = T) w2.drew (p := ⟨T, 2, none⟩) rfl (.int .u32 1)
      have t2 := But.setCell (F := fun k => k = T) (w2.drew.setCell ⟨T, 2, none⟩ (.int .u32 1)) (p := ⟨T, 3, none⟩) rfl (.int .i32 0)
      have hb' : But (fun k => k = T) (w.setCell ⟨T, 3, none⟩ (.int .i32 1)) w2.drew := ⟨hb.os, hb.tape, hb.output, hb.size, hb.block⟩
      exact ⟨rfl, hD.once _ _, ((s1.trans hb' fun k e => .inl e).trans t1 fun k e => .inl e).trans t2 fun k e => .inl e⟩
  · have h' := h
    obtain ⟨M, c, h1, -, -⟩ := h
    refine (do_done ⟨T, 2, none⟩ 1 (by decide) _ w (by rw [cells_of h1]; rfl)).mono ?_
    rintro e w' ⟨rfl, rfl⟩
    exact ⟨rfl, h', .refl _ _⟩

set_option maxHeartbeats 400000 in
theorem match_any' (T : Nat) (F : Nat → Prop) (a b : List Int) (w : World) (h : PairIs w T F a b) :
    Calls Tryz.prog 42 #[.pointer (some ⟨T, 0, none⟩)] w fun e w' => MatchOut PairIs w w' e T F a b := by
  have hd := Lib.hid (pair_do T F a b w h)
  have hh := Lib.hid h
  have hla := h.2.1
  clear h
  go_enter Tryz.func42, Tryz.ntmps42
  go_wp2_with (first
    | (go_at_call 64; refine hd.out.mono ?_; rintro e w1 ⟨rfl, hD, hb⟩; have hD' := Lib.hid hD; have hlt := hD.lt; obtain ⟨M, cM, hT, hN, hne⟩ := hD; have c6 : w1.cell? ⟨T, 6, none⟩ = some (.slice M a.length cM) := (by rw [cells_of hT]; rfl); have hcl := Lib.hid (clone_any M a.length cM w1.heap.size (mt a b 0) w1 hla (Nat.le_refl _) hN); clear hT hN hne)
    | (go_at_call 66; refine hcl.out.mono ?_; rintro e w2 ⟨v, rfl, hown, hb2⟩; obtain ⟨Ao, co, rfl, k1, k2, k3⟩ := nums_of_own hown))
  go_ret
  obtain ⟨h1, h2, h3, -⟩ := hh.out
  refine ⟨Ao, a.length, co, F, rfl, rfl, k1, k2, k3, fun q o e hq => ?_, ⟨h1, h2, h3, .inr (hD'.out.below hb2)⟩, (hb.trans (But.of_below hb2 fun k hk _ => hk) (F' := fun k => k = T) fun k e => .inl e).more fun k e => (h1 k).2 e, fun k hk => .inl hk⟩
  subst e
  have := (h1 q).1 hq
  have := (hown.lt q rfl).1
  omega

/-- Nothing. -/
def NoNums (w w' : World) (e : Ending) : Prop := ∃ A c, e = .returned (.slice A 0 c) ∧ w = w'
set_option maxHeartbeats 400000 in
theorem match_nil' (w : World) : Calls Tryz.prog 42 #[.pointer none] w fun e w' => NoNums w w' e := by
  go_enter Tryz.func42, Tryz.ntmps42
  go_wp2
  go_ret
  exact ⟨none, 0, rfl, rfl⟩

set_option maxHeartbeats 400000 in
theorem new_long' (A A' : Option Addr) (n n' c c' : Nat) (w : World) (hm : n ≤ maxLen) (hm' : n' ≤ maxLen) (h : 2000 < n ∨ 2000 < n') :
    Calls Tryz.prog 61 #[.slice A n c, .slice A' n' c'] w fun e w' => e = .returned (.tuple #[.pointer none, .int .i64 4]) ∧ Below w.heap.size w w' := by
  by_cases h1 : 2000 < n
  · have h2 : (2000 : Int) < (n : Int) := by omega
    clear h
    go_enter Tryz.func61, Tryz.ntmps61
    go_wp2
    go_ret2
    exact ⟨rfl, Below.refl _ _⟩
  · have h2 : decide ((2000 : Int) < (n : Int)) = false := by simp; omega
    have h3 : (2000 : Int) < (n' : Int) := by omega
    clear h
    go_enter Tryz.func61, Tryz.ntmps61
    go_wp2
    go_ret2
    exact ⟨rfl, Below.refl _ _⟩

theorem new_fin {w w1 w2 : World} {A A' : Option Addr} {c c' : Nat} {a b : List Int} (hla : a.length ≤ 2000) (hlb : b.length ≤ 2000) (hA : Nums w1 w1.heap.size A a.length a) (hA' : Nums w2 w2.heap.size A' b.length b) (h1 : Below w.heap.size w w1) (h2 : Below w1.heap.size w1 w2) (hq : ∀ q o, A = some ⟨q, o, none⟩ → q < w2.heap.size) (hq' : ∀ q o, A' = some ⟨q, o, none⟩ → q < w2.heap.size) :
    NewOut PairIs w (w2.alloc (.cells #[.slice A a.length c, .slice A' b.length c', .int .u32 0, .int .i32 0, .int .u32 0, .int .i64 0, .slice none 0 0] 124)) (.returned (.tuple #[.pointer (some ⟨w2.heap.size, 0, none⟩), .int .i64 0])) a b := by
  have hs : w.heap.size ≤ w2.heap.size := Nat.le_trans h1.size h2.size
  have hb2 : Below w.heap.size w w2 := h1.trans (h2.mono h1.size)
  have hA2 := (hA.below h2).more h2.size
  have hal : Below w2.heap.size w2 (w2.alloc (.cells #[.slice A a.length c, .slice A' b.length c', .int .u32 0, .int .i32 0, .int .u32 0, .int .i64 0, .slice none 0 0] 124)) := (Below.refl _ _).alloc (Nat.le_refl _) _
  refine ⟨w2.heap.size, fun k => k = w2.heap.size, rfl, ⟨fun k => Iff.rfl, hla, hlb, .inl ⟨A, c, A', c', _, _, Go.Deep.blk_alloc_new _ _, (hA2.below hal).more hal.size, (hA'.below hal).more hal.size, ?_, ?_⟩⟩, fun k e => by omega, hb2.alloc hs _⟩
  · intro q o e h
    have := hq q o e
    omega
  · intro q o e h
    have := hq' q o e
    omega

theorem own_at {w : World} {base n : Nat} {e : TypeId} {A : Option Addr} {c : Nat} {xs : List Value} (h : w.ownsRow base e 1 (.slice A n c) n xs) : ∀ q o, A = some ⟨q, o, none⟩ → q < w.heap.size := by
  rintro q o rfl
  exact (h.lt q rfl).2

set_option maxHeartbeats 800000 in
theorem new_ok' (A A' : Option Addr) (n n' c c' : Nat) (a b : List Int) (w : World) (hn : n ≤ 2000) (hn' : n' ≤ 2000) (hA : Nums w w.heap.size A n a) (hA' : Nums w w.heap.size A' n' b) :
    Calls Tryz.prog 61 #[.slice A n c, .slice A' n' c'] w fun e w' => NewOut PairIs w w' e a b := by
  have hl := hA.len
  have hl' := hA'.len
  subst hl
  subst hl'
  have hc1 := Lib.hid (clone_any A a.length c w.heap.size a w hn (Nat.le_refl _) hA)
  have hA'' := Lib.hid hA'
  have h1 : decide ((2000 : Int) < (a.length : Int)) = false := by simp; omega
  have h2 : ¬ ((2000 : Int) < (b.length : Int)) := by omega
  have tok1 := trivial
  clear hA hA'
  go_enter Tryz.func61, Tryz.ntmps61
  go_wp2_with (go_at_call 66; first
    | (have _t := tok1; refine hc1.out.mono ?_; rintro e w1 ⟨v1, rfl, hown1, hb1⟩; obtain ⟨A1, c1, rfl, -, -, k1⟩ := nums_of_own hown1; have hc2 := Lib.hid (clone_any A' b.length c' w.heap.size b w1 hn' hb1.size (hA''.out.below hb1)); clear tok1)
    | (refine hc2.out.mono ?_; rintro e w2 ⟨v2, rfl, hown2, hb2⟩; obtain ⟨A2, c2, rfl, -, -, k2⟩ := nums_of_own hown2))
  go_ret2
  exact new_fin hn hn' k1 k2 hb1 hb2 (fun q o e => Nat.lt_of_lt_of_le (own_at hown1 q o e) hb2.size) (own_at hown2)

theorem pair_kept {w w' : World} {T : Nat} {F : Nat → Prop} {a b : List Int} (h : PairIs w T F a b) (hb : Below w.heap.size w w') : PairIs w' T F a b := by
  obtain ⟨h1, h2, h3, h | h⟩ := h
  · exact ⟨h1, h2, h3, .inl (h.below hb)⟩
  · exact ⟨h1, h2, h3, .inr (h.below hb)⟩

end Go.Proofs.YtoephlkfejcadaaGreat
