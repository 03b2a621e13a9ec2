/- The reference's ParseDec of any text by its contract: it tells what dec.Parse tells. Condition: the text is not too long. -/
import Derived.Test.YtmbjmgmnicacpaaGreatDoorPd2
import Derived.Test.YtmbjmgmnicacpaaGreatDoorPd3
import Derived.Test.YtmbjmgmnicacpaaGreatDoorPd5
namespace Go.Proofs.YtmbjmgmnicacpaaGreatDoor
open Go.RowKit

theorem parseDec_any {w : World} (s : ByteArray) (hs : s.size ≤ 3000) :
    Calls Tryz.prog 33 #[.string s] w fun e w' => e = .returned (dv (pD s.data.toList)) ∧ Below w.heap.size w w' := by
  unfold pD
  rw [refE_eq]
  have hll : s.data.toList.length = s.size := Array.length_toList
  by_cases h0 : s.size = 0
  · have e : s.data.toList = [] := List.eq_nil_of_length_eq_zero (by omega)
    rw [e]
    exact pd_empty h0
  · have hp : 0 < s.size := by omega
    have hh : s.data.toList.head? = some (s[0]'hp) := by
      rw [List.head?_eq_getElem?, List.getElem?_eq_getElem (by omega)]
      rfl
    by_cases hc : (s[0]'hp).toNat = 45
    · have hn : isNeg s.data.toList = true := by
        unfold isNeg
        rw [hh, show s[0]'hp = 45 from (u8_eq (n := 45) (by decide)).2 hc]
        rfl
      rw [hn]
      exact pd_true hs hp (by simp; omega) _ rfl
    · have hn : isNeg s.data.toList = false := by
        unfold isNeg
        rw [hh]
        refine beq_eq_false_iff_ne.2 fun h => hc ?_
        rw [Option.some.inj h]
        rfl
      rw [hn]
      exact pd_false hs hp (by simp; omega) _ rfl
end Go.Proofs.YtmbjmgmnicacpaaGreatDoor
