/- fun's Find, takes by their contracts. Condition: the table is laid. -/
import Derived.Test.YtngkolcpbgibcaaGreatDoorPhI
set_option linter.unusedVariables false
set_option linter.unusedSimpArgs false
namespace Go.Proofs.YtngkolcpbgibcaaGreatDoor
open Go.RowKit
def findX (l : List UInt8) : Option Nat := fnTab.findIdx? fun x => x.1 == l
def findV : Option Nat → Value
  | some k => .tuple #[.int .i64 k, .bool true]
  | none => .tuple #[.int .i64 0, .bool false]
theorem find_first {l : List UInt8} {k : Nat} {x : List UInt8 × Int × Int} (hx : fnTab[k]? = some x) (h : ∀ y ∈ fnTab.take k, ¬ y.1 = l) (e : x.1 = l) : findX l = some k := by
  unfold findX; rw [List.findIdx?_eq_some_iff_getElem]; obtain ⟨hk, e2⟩ := List.getElem?_eq_some_iff.1 hx; refine ⟨hk, by rw [e2]; simp [e], fun j hj => ?_⟩
  have hm : fnTab[j]'(by omega) ∈ fnTab.take k := by
    rw [List.mem_take_iff_getElem]; exact ⟨j, by omega, rfl⟩
  simpa using h _ hm
theorem find_none {l : List UInt8} (h : ∀ y ∈ fnTab, ¬ y.1 = l) : findX l = none := by
  unfold findX; rw [List.findIdx?_eq_none_iff]; intro y hy
  simpa using h y hy
set_option maxRecDepth 20000 in
set_option maxHeartbeats 4000000 in
theorem fFind_any {w : World} (HF : FnT w) (l : List UInt8) :
    Calls Tryz.prog 24 #[sL l] w fun e W => e = .returned (findV (findX l)) ∧ W = w := by
  unfold sL; have HF := Lib.hid HF; go_enter Tryz.func24, Tryz.ntmps24
  repeat' (first | go_values | go_skip | go_guarded | go_step | go_upon)
  go_loopw [5] (fun i wr => ∃ k : Nat, k ≤ 30 ∧ i = .int .i64 k ∧ wr = w ∧ Hid (∀ y ∈ fnTab.take k, ¬ y.1 = l)) (fun i _ => 30 - (intOf i).toNat)
  case atStart => exact ⟨0, Nat.zero_le _, rfl, rfl, Lib.hid (by simp)⟩
  case round =>
    obtain ⟨k, hk, rfl, rfl, HN⟩ := hrel
    by_cases hlt : k < 30
    · have hlt' : (k : Int) < 30 := by omega
      have hk0 : (0 : Int) ≤ (k : Int) := by omega
      obtain ⟨x, hx⟩ : ∃ x, fnTab[k]? = some x := ⟨_, List.getElem?_eq_getElem (by have : fnTab.length = 30 := rfl; omega)⟩
      have c0 := HF.out.name k x hx; have HX := Lib.hid hx; simp only [sL] at c0; clear hx
      by_cases he : x.1 = l
      · have HR := Lib.hid (find_first HX.out HN.out he); have hq : (x.1 == l) = true := by simpa using he
        clear he
        repeat' (first | go_values | go_skip | go_guarded | go_step | go_upon)
        go_ret2
        exact ⟨by rw [HR.out]; rfl, rfl⟩
      · have HR : Hid (∀ y ∈ fnTab.take (k + 1), ¬ y.1 = l) := Lib.hid (by
          intro y hy; rw [List.take_add_one, HX.out] at hy
          rcases List.mem_append.1 hy with hy | hy
          · exact HN.out y hy
          · simp at hy; subst hy; exact he)
        have hq : (x.1 == l) = false := by simpa using he
        clear he
        repeat' (first | go_values | go_skip | go_guarded | go_step | go_upon)
        go_roundw
        case rel => exact ⟨k + 1, by omega, by go_num, by first | trivial | rfl, HR⟩
        case measure => simp [intOf]; omega
    · obtain rfl : k = 30 := by omega
      have HR := Lib.hid (find_none (l := l) (by have := HN.out; rwa [show fnTab.take 30 = fnTab from rfl] at this))
      repeat' (first | go_values | go_skip | go_guarded | go_step | go_upon)
      go_ret2
      exact ⟨by rw [HR.out]; rfl, rfl⟩
def okA (k : Int) (a : Bool × List VX) : Bool := oneB a.1 a.2.length || (a.1 && manyB k)
def shB (k : Int) (args : List (Bool × List VX)) : Bool :=
  if k = 10 ∨ k = 23 ∨ k = 25 then oneB (args.headD (true, [])).1 (args.headD (true, [])).2.length
  else if k = 24 then (match args with
    | [a, b] => a.1 && oneB b.1 b.2.length
    | _ => false)
  else args.all (okA k)
def takesB (k : Int) (args : List (Bool × List VX)) : Bool :=
  if 0 ≤ k then (match fnTab[k.toNat]? with
    | some x => decide (x.2.1 ≤ (args.length : Int) ∧ (args.length : Int) ≤ x.2.2) && shB k args
    | none => false)
  else false
theorem takes_args {k : Int} {n : Nat} {x : List UInt8 × Int × Int} {args : List (Bool × List VX)} (hk : k = (n : Int)) (hx : fnTab[n]? = some x) (h0 : x.2.1 ≤ (args.length : Int)) (h1 : (args.length : Int) ≤ x.2.2) : takesB k args = shB k args := by
  subst hk; unfold takesB; rw [if_pos (by omega), Int.toNat_natCast, hx]; dsimp only; rw [decide_eq_true ⟨h0, h1⟩, Bool.true_and]
theorem takes_few {k : Int} {n : Nat} {x : List UInt8 × Int × Int} {args : List (Bool × List VX)} (hk : k = (n : Int)) (hx : fnTab[n]? = some x) (h : ¬ (x.2.1 ≤ (args.length : Int) ∧ (args.length : Int) ≤ x.2.2)) : takesB k args = false := by
  subst hk; unfold takesB; rw [if_pos (by omega), Int.toNat_natCast, hx]; dsimp only; rw [decide_eq_false h, Bool.false_and]
theorem takes_none {k : Int} {args : List (Bool × List VX)} (h : ¬ (0 ≤ k ∧ k < 30)) : takesB k args = false := by
  unfold takesB
  split
  · rw [List.getElem?_eq_none (by have : fnTab.length = 30 := rfl; omega)]
  · rfl
theorem addr00 (q : Addr) : q.add 0 = q := by
  cases q
  unfold Addr.add
  split <;> simp_all
theorem fn_pos {n : Nat} {x : List UInt8 × Int × Int} (hx : fnTab[n]? = some x) (h : (n : Int) = 10 ∨ (n : Int) = 23 ∨ (n : Int) = 24 ∨ (n : Int) = 25) : 0 < x.2.1 := by
  have h' : n = 10 ∨ n = 23 ∨ n = 24 ∨ n = 25 := by omega
  rcases h' with rfl | rfl | rfl | rfl <;> (injection hx with hx; subst hx; decide)
theorem fn_24 {n : Nat} {x : List UInt8 × Int × Int} (hx : fnTab[n]? = some x) (h : (n : Int) = 24) : x.2.1 = 2 ∧ x.2.2 = 2 := by
  have h' : n = 24 := by omega
  subst h'; injection hx with hx; subst hx
  decide
theorem all_step {p : Bool × List VX → Bool} {args : List (Bool × List VX)} {k : Nat} {x : Bool × List VX} (hx : args[k]? = some x) (h : (args.take k).all p = true) (hp : p x = true) : (args.take (k + 1)).all p = true := by
  rw [List.take_add_one, hx, List.all_append, h]; simp [hp]
theorem all_stop {p : Bool × List VX → Bool} {args : List (Bool × List VX)} {k : Nat} {x : Bool × List VX} (hx : args[k]? = some x) (hp : p x = false) : args.all p = false := by
  rw [List.all_eq_false]; exact ⟨x, List.mem_of_getElem? hx, by rw [hp]; decide⟩
set_option maxRecDepth 20000 in
set_option maxHeartbeats 8000000 in
theorem takes_few_w {w : World} {n : Nat} {lo hi : Int} (c1 : w.cell? ⟨0, n * 3 + 1, none⟩ = some (.int .i64 lo)) (c2 : w.cell? ⟨0, n * 3 + 2, none⟩ = some (.int .i64 hi))
    (HI : Hid (∀ W : World, Calls Tryz.prog 81 #[.int .i64 n] W fun e W' => e = .returned (.bool true) ∧ W' = W)) (hn1 : (n : Int) < 30) {A : Option Addr} {c : Nat} {m : Nat} (hlo : (m : Int) < lo) :
    Calls Tryz.prog 40 #[.int .i64 n, .slice A m c] w fun e W => e = .returned (.bool false) ∧ Below w.heap.size w W := by
  have hn0 : (0 : Int) ≤ (n : Int) := by omega
  have hn2 : n < 30 := by omega
  have HB := Lib.hid (BX.start w); go_enter Tryz.func40, Tryz.ntmps40
  repeat' (first | go_values | go_skip | go_guarded | go_step | go_upon)
  refine (HI.out _).mono ?_; rintro e W1 ⟨rfl, hw⟩; have hw := hw.symm; subst hw; dsimp only
  repeat' (first | ((with_reducible show Oper.wp _ _ _ _ _ _); refine stop_ld (ty := 3) _ rfl ?_) | go_values | go_skip | go_guarded | go_step | go_upon)
  refine Lib.hid ?_; refine lfm_int _ rfl rfl c1 ?_; go_simp
  repeat' (first | go_values | go_skip | go_guarded | go_step | go_upon)
  go_ret; exact ⟨rfl, HB.out.bel⟩
set_option maxRecDepth 20000 in
set_option maxHeartbeats 8000000 in
theorem takes_many_w {w : World} {n : Nat} {lo hi : Int} (c1 : w.cell? ⟨0, n * 3 + 1, none⟩ = some (.int .i64 lo)) (c2 : w.cell? ⟨0, n * 3 + 2, none⟩ = some (.int .i64 hi))
    (HI : Hid (∀ W : World, Calls Tryz.prog 81 #[.int .i64 n] W fun e W' => e = .returned (.bool true) ∧ W' = W)) (hn1 : (n : Int) < 30) {A : Option Addr} {c : Nat} {m : Nat} (hlo : ¬ (m : Int) < lo) (hhi : hi < (m : Int)) :
    Calls Tryz.prog 40 #[.int .i64 n, .slice A m c] w fun e W => e = .returned (.bool false) ∧ Below w.heap.size w W := by
  have hn0 : (0 : Int) ≤ (n : Int) := by omega
  have hn2 : n < 30 := by omega
  have HB := Lib.hid (BX.start w); go_enter Tryz.func40, Tryz.ntmps40
  repeat' (first | go_values | go_skip | go_guarded | go_step | go_upon)
  refine (HI.out _).mono ?_; rintro e W1 ⟨rfl, hw⟩; have hw := hw.symm; subst hw; dsimp only
  repeat' (first | ((with_reducible show Oper.wp _ _ _ _ _ _); refine stop_ld (ty := 3) _ rfl ?_) | go_values | go_skip | go_guarded | go_step | go_upon)
  refine Lib.hid ?_; refine lfm_int _ rfl rfl c1 ?_; go_simp
  repeat' (first | ((with_reducible show Oper.wp _ _ _ _ _ _); refine stop_ld (ty := 3) _ rfl ?_) | go_values | go_skip | go_guarded | go_step | go_upon)
  refine Lib.hid ?_; refine lfm_int _ rfl rfl c2 ?_; go_simp
  repeat' (first | go_values | go_skip | go_guarded | go_step | go_upon)
  go_ret; exact ⟨rfl, HB.out.bel⟩
set_option maxRecDepth 20000 in
set_option maxHeartbeats 8000000 in
theorem takes_none_w {w : World} {k : Int} (hf : ¬ (0 ≤ k ∧ k < 30)) {A : Option Addr} {m c : Nat} :
    Calls Tryz.prog 40 #[.int .i64 k, .slice A m c] w fun e W => e = .returned (.bool false) ∧ Below w.heap.size w W := by
  have HI := Lib.hid (fun W : World => isFunction_any (w := W) k); rw [show funB k = false from decide_eq_false hf] at HI; have HB := Lib.hid (BX.start w); clear hf; go_enter Tryz.func40, Tryz.ntmps40
  repeat' (first | go_values | go_skip | go_guarded | go_step | go_upon)
  refine (HI.out _).mono ?_; rintro e W1 ⟨rfl, hw⟩; have hw := hw.symm; subst hw; dsimp only
  repeat' (first | go_values | go_skip | go_guarded | go_step | go_upon)
  go_ret; exact ⟨rfl, HB.out.bel⟩
end Go.Proofs.YtngkolcpbgibcaaGreatDoor
