/- sub.Split by its contract. Conditions: the records read as such; there are no more than a million. -/
import Derived.Test.YtliidkampllddaaSplit1
import Derived.Test.YtliidkampllddaaSplit3
namespace Go.Proofs.Ytliidkampllddaa
open Go.RowKit

set_option maxHeartbeats 4000000 in
theorem split_any {w : World} {B n c : Nat} {A : Option Addr} {L : List RecM} (h : RecsRd w B A n L) (hB : B ≤ w.heap.size) (hn : n ≤ 1000000) (hL : ∀ r ∈ L, Wide r) :
    Calls Try.prog 8 #[.slice A n c] w fun e w' => ∃ v', e = .returned (.tuple #[v', .int .i64 (splitM [] none L).2.1, .int .i64 (splitM [] none L).2.2]) ∧
      OwnF streamForm w' (But w' (Mine v')) w.heap.size 41 v' (splitM [] none L).1 ∧ Below w.heap.size w w' := by
  go_enter Try.func8, Try.ntmps8
  go_wp2
  rename_i Q'
  have hQ : ∀ a W, SpFin w L a W → Q' .ret a W := by
    rintro a W ⟨hd, v, h2, h3, h4, ho, hb⟩
    refine bodyPost_ret (v := .tuple #[v, .int .i64 (splitM [] none L).2.1, .int .i64 (splitM [] none L).2.2]) ?_ hd ⟨v, rfl, ho, hb⟩
    simp [results, Try.results8, go_sem, h2, h3, h4]
  clear_value Q'
  refine wp_scope_labels (SpJ w A n c L) (SpMu n) ?_ ?_
  · go_wp2
    go_step3
    rename_i K hK
    refine hK _ _ (wp_mono (split_outside (c := c) (m := n + 1) h hB hn hL hQ rfl rfl ?_ ?_) ?_)
    · refine ⟨0, [], .slice none 0 0, _, _, Nat.zero_le _, ⟨rfl, rfl, rfl, rfl, rfl, rfl⟩, ⟨(Below.refl _ _).alloc (Nat.le_refl _) _, Bk.new w _ _, OwnF.nil _ _ _ _ _, by simp⟩, Lib.hid (by simp)⟩
    · show n + 1 - (0 : Int).toNat ≤ n + 1
      omega
    · intro e a W hq
      cases e with
      | goto l => exact hq.1
      | _ => exact hq
  · intro l a W hJ
    match l, hJ with
    | 0, hJ => exact ⟨_, rfl, wp_seq (wp_skip (split_outside (c := c) h hB hn hL hQ rfl rfl hJ (Nat.le_refl _)))⟩
    | 1, hJ => exact ⟨_, rfl, split_wrong (c := c) h hB hn hQ rfl rfl hJ⟩
    | 2, hJ => exact ⟨_, rfl, wp_seq (wp_skip (split_inside (c := c) h hB hn hL hQ rfl rfl hJ (Nat.le_refl _)))⟩
end Go.Proofs.Ytliidkampllddaa
