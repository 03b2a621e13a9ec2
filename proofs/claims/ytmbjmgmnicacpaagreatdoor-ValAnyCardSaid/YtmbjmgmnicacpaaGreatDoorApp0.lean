/- append onto an empty row that is none's, as a step of a region by tables. Condition: what is appended reads as a list. -/
import Derived.Test.YtmbjmgmnicacpaaGreatDoorLit
namespace Go.Proofs.YtmbjmgmnicacpaaGreatDoor
open Go.RowKit

section
variable {P : Program} {w : World} {t ty e size bytes m c g : Nat} {z : Value} {A : Option Addr} {news : List Value} {base B : Nat}

/-- append onto an empty row that is none's: what was there stays. -/
theorem run_app0 (E : ElemRow P t e z size bytes) (hown : w.ownsRow base e size (.slice (some ⟨g, 0, none⟩) 0 0) 0 []) (hr : Rd w B size A m news) (h1 : ∀ u ∈ news, u.oneCell' = true)
    (h63 : m ≤ maxLen) (hbytes : m * bytes ≤ 140737488355328) (hbase : base ≤ w.heap.size) :
    ∃ b k w', (Builtin.append_ #[t, t] ty #[.slice (some ⟨g, 0, none⟩) 0 0, .slice A m c]).run P w = .ok (.slice (some b) m k) w' ∧ w'.ownsRow base e size (.slice (some b) m k) m news ∧ Below w.heap.size w w' := by
  obtain ⟨i, hi, hz, hs, hb⟩ := E.info
  rcases Nat.eq_zero_or_pos m with rfl | hm
  · have hn : news = [] := List.eq_nil_of_length_eq_zero (by simpa using hr.len)
    subst hn
    refine ⟨⟨g, 0, none⟩, 0, w, ?_, hown, Below.refl _ _⟩
    cases A <;> simp [Builtin.append_, run_underlying E.under, sizeOf, typeInfo, hi, Builtin.lenOf, Builtin.firstCells, storeCells, loadCells, loadCellsFrom]
  · obtain ⟨a, rfl, _, hcells⟩ := hr.at_ hm
    obtain ⟨v', w', h, h2, -⟩ := run_append_own_at (P := P) w base t ty e i z size bytes E.under hi hz hs hb E.zero E.pos _ 0 [] hown a m c news hr.len hcells h1 (by omega) (by simpa using hbytes) hbase
    have hmb : m ≤ 9223372036854775807 := by simp only [maxLen] at h63; omega
    have h' := run_append_grow (P := P) w t ty e i z E.under hi hz ⟨g, 0, none⟩ 0 0 [] (by simp) (by simp) a m c news (by rw [hs]; exact hr.len) hcells (by omega) (by simp; omega) (growslice_fits (by omega) (by rw [hb]; simpa using hbytes))
    rw [h] at h'
    injection h' with hv hw
    simp only [Nat.zero_add, List.nil_append] at hv h h2
    subst hv
    refine ⟨_, _, w', h, h2, ?_⟩
    rw [hw]
    exact ((Below.refl _ _).drew).alloc (by simp) _

theorem lands_app0 {S : World → Prop} {F : World → World → Prop} {R : Value → World → Prop} {o : Oper} {a : Act} (E : ElemRow P t e z size bytes) (s x : Operand)
    (ho : o.op = .call { callee := .builtin .append, args := #[s, x], argTypes := #[t, t] })
    (hs : a.eval s = .slice (some ⟨g, 0, none⟩) 0 0) (hx : a.eval x = .slice A m c)
    (hown : w.ownsRow base e size (.slice (some ⟨g, 0, none⟩) 0 0) 0 []) (hr : Rd w B size A m news) (h1 : ∀ u ∈ news, u.oneCell' = true)
    (h63 : m ≤ maxLen) (hbytes : m * bytes ≤ 140737488355328) (hbase : base ≤ w.heap.size)
    (h : ∀ b k w', w'.ownsRow base e size (.slice (some b) m k) m news → Below w.heap.size w w' → R (.slice (some b) m k) w' ∧ S w' ∧ F w w') :
    Lands P S F R w ((execOp a.eval o).run P w) := by
  obtain ⟨b, k, w', hrun, h2, h3⟩ := run_app0 (ty := o.type) (c := c) E hown hr h1 h63 hbytes hbase
  unfold execOp
  simp only [ho, resolve, invoke, builtin, Sem.run_bind, Sem.run_pure, Result.andThen_ok, List.map_toArray, List.map_cons, List.map_nil, hs, hx, hrun]
  exact h b k w' h2 h3
end

end Go.Proofs.YtmbjmgmnicacpaaGreatDoor
