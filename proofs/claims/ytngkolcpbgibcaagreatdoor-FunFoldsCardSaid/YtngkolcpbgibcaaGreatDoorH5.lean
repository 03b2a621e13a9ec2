/- fun.takes by its contract. Condition: the table is laid. -/
import Derived.Test.YtngkolcpbgibcaaGreatDoorH3
import Derived.Test.YtngkolcpbgibcaaGreatDoorH4
set_option linter.unusedVariables false
set_option linter.unusedSimpArgs false
namespace Go.Proofs.YtngkolcpbgibcaaGreatDoor
open Go.RowKit
theorem takes_any {w : World} (HF : FnT w) {k : Int} {A : Option Addr} {c : Nat} {args : List (Bool × List VX)} (h : RowF argF w (· < w.heap.size) A args.length args) (hn : args.length ≤ 1000000) :
    Calls Tryz.prog 40 #[.int .i64 k, .slice A args.length c] w fun e W => e = .returned (.bool (takesB k args)) ∧ Below w.heap.size w W := by
  by_cases hf : 0 ≤ k ∧ k < 30
  · have HI := Lib.hid (fun W : World => isFunction_any (w := W) k); rw [show funB k = true from decide_eq_true hf] at HI; obtain ⟨n, rfl⟩ : ∃ n : Nat, k = (n : Int) := ⟨k.toNat, by omega⟩
    have hn' : n < fnTab.length := by have : fnTab.length = 30 := rfl; omega
    obtain ⟨x, hx⟩ : ∃ x, fnTab[n]? = some x := ⟨_, List.getElem?_eq_getElem hn'⟩
    have c1 := HF.least n x hx; have c2 := HF.most n x hx
    by_cases hlo : (args.length : Int) < x.2.1
    · rw [takes_few rfl hx (by omega)]; exact takes_few_w c1 c2 HI hf.2 hlo
    · by_cases hhi : x.2.2 < (args.length : Int)
      · rw [takes_few rfl hx (by omega)]; exact takes_many_w c1 c2 HI hf.2 hlo hhi
      · have hS := takes_args (args := args) (k := (n : Int)) rfl hx (by omega) (by omega); rw [hS]; unfold shB
        by_cases h3 : (n : Int) = 10 ∨ (n : Int) = 23 ∨ (n : Int) = 25
        · rw [if_pos h3]; have hpos := fn_pos hx (by omega)
          match args, h, hn, hlo, hhi with
          | [], _, _, hlo, _ => exact absurd hlo (by simp; omega)
          | y :: r, h, hn, hlo, hhi =>
            rw [List.length_cons] at hn hlo hhi; have hlo' : ¬ ((r.length : Int) + 1) < x.2.1 := by omega
            have hhi' : ¬ x.2.2 < ((r.length : Int) + 1) := by omega
            rcases h3 with h3 | h3 | h3
            · exact takes_10_w c1 c2 HI hf.2 (by omega) (by omega) h hlo' hhi'
            · exact takes_23_w c1 c2 HI hf.2 (by omega) (by omega) h hlo' hhi'
            · exact takes_25_w c1 c2 HI hf.2 (by omega) (by omega) h hlo' hhi'
        · rw [if_neg h3]
          by_cases h4 : (n : Int) = 24
          · rw [if_pos h4]; obtain ⟨e1, e2⟩ := fn_24 hx h4
            match args, h, hlo, hhi with
            | [y, z], h, hlo, hhi =>
              dsimp only
              cases hy : y.1 with
              | true =>
                rw [Bool.true_and]; exact takes_24_true c1 c2 HI hf.2 (by omega) hy h (by rw [e1]; decide) (by rw [e2]; decide)
              | false =>
                rw [Bool.false_and]; exact takes_24_false c1 c2 HI hf.2 (by omega) hy h (by rw [e1]; decide) (by rw [e2]; decide)
            | [], _, hlo, _ => exact absurd hlo (by rw [e1]; decide)
            | [_], _, hlo, _ => exact absurd hlo (by rw [e1]; simp)
            | _ :: _ :: _ :: _, _, _, hhi => exact absurd hhi (by rw [e2]; simp; omega)
          · rw [if_neg h4]; exact takes_all_w c1 c2 HI hf.2 hn h hlo hhi (by omega) (by omega) (by omega) (by omega)
  · rw [takes_none hf]; exact takes_none_w hf
end Go.Proofs.YtngkolcpbgibcaaGreatDoor
