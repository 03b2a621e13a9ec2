/- cashbooklaw11.FunMod by its contract, whatever the numbers. Condition: the tables are laid. -/
import Derived.Test.YtngkolcpbgibcaaGreatDoorMw
set_option linter.unusedVariables false
set_option linter.unusedSimpArgs false
namespace Go.Proofs.YtngkolcpbgibcaaGreatDoor
open Go.RowKit
theorem sh_norm {a : Int} {k : Nat} (h0 : -2147483648 ≤ a) (h1 : a ≤ 2147483647) (hk : k ≤ 3) : Sh (tl a k).m (tl a k).s := by
  have e := tl_small (v := a) (s := k) (by omega); have hs := tl_s a k; have hm := strip_abs a k; exact ⟨(tl_ok (by omega) e).1, by omega, by omega⟩
theorem ap_8 {W : World} {q : Nat} {m n : Int} {s t : Nat} (HF : FnT W) (gx : Gd m s) (gy : Gd n t) (h : RowF argF W (· < W.heap.size) (some ⟨q, 0, none⟩) 2 [(false, [.num m s]), (false, [.num n t])]) : Ap W 8 (some ⟨q, 0, none⟩) 2 2 (modX m s n t) := by
  have px := pg_num gx; have py := pg_num gy; refine ap_v HF (c := 2) (args := [(false, [.num m s]), (false, [.num n t])]) (by omega) h (ag_ones (l := [.num m s, .num n t]) (by simp) (by intro x hx; simp at hx; rcases hx with rfl | rfl <;> assumption)) (by kernel_rfl) fun W A' c' hW _ hr => ?_; exact ofv_8 hr fun W' hW' => ofTwo_any (w := W') (op := 8) (x := .num m s) (y := .num n t) trivial trivial px.2 py.2
theorem modLaw {w : World} (HF : FnT w) (HT : Tens w) (HV : Val w) (a b : Int) (z : Nat) (ha : -2147483648 ≤ a ∧ a ≤ 2147483647) (hb : -2147483648 ≤ b ∧ b ≤ 2147483647) (hz : z < 256) :
    Calls Tryz.prog 9 #[.int .i32 a, .int .i32 b, .int .u8 z] w fun e W => e = .returned (.bool true) ∧ Below w.heap.size w W := by
  have hx := sh_norm ha.1 ha.2 (show z % 4 ≤ 3 by omega); have hy := sh_norm hb.1 hb.2 (show z / 4 % 4 ≤ 3 by omega); have N1 : ∀ W : World, Calls Tryz.prog 31 #[.agg (dc a (z % 4 : Nat)).toArray] W fun e W' => e = .returned (.agg (dc (tl a (z % 4)).m ((tl a (z % 4)).s : Nat)).toArray) ∧ Below W.heap.size W W' := fun W => norm_any (by omega) (by omega) (by omega); have N2 : ∀ W : World, Calls Tryz.prog 31 #[.agg (dc b (z / 4 % 4 : Nat)).toArray] W fun e W' => e = .returned (.agg (dc (tl b (z / 4 % 4)).m ((tl b (z / 4 % 4)).s : Nat)).toArray) ∧ Below W.heap.size W W' := fun W => norm_any (by omega) (by omega) (by omega); generalize (tl a (z % 4)).m = m at *; generalize (tl a (z % 4)).s = s at *; generalize (tl b (z / 4 % 4)).m = n at *; generalize (tl b (z / 4 % 4)).s = t at *; have HA : ∀ W : World, Below w.heap.size w W → ∀ q, RowF argF W (· < W.heap.size) (some ⟨q, 0, none⟩) 2 [(false, [.num m s]), (false, [.num n t])] → Ap W 8 (some ⟨q, 0, none⟩) 2 2 (modX m s n t) := fun W hW q h => ap_8 (HF.below hW) hx.gd hy.gd h
  by_cases hn : n = 0
  · rw [show modX m s n t = .err 7 by unfold modX; rw [if_pos hn]] at HA; exact fmod_zero (rm := 0) (rs := 0) HF HT HV hz ha hb HA N1 N2 hn
  · obtain ⟨rm, rs, dm, ds, K, e1, gr, gd, gk, h0, h1, h2, h3, eS, eD, eM⟩ := mod_spec hx hy hn; rw [e1] at HA
    have K4 : ∀ W : World, Calls Tryz.prog 34 #[.agg (dc m (s : Nat)).toArray, .agg (dc rm (rs : Nat)).toArray] W fun e W' => e = .returned (.tuple #[.agg (dc dm (ds : Nat)).toArray, .int .i64 0]) ∧ Below W.heap.size W W' := fun W => by
      have := sub_r hx.gd gr W
      rwa [eS] at this
    have K5 : ∀ W : World, Calls Tryz.prog 35 #[.agg (dc dm (ds : Nat)).toArray, .agg (dc n (t : Nat)).toArray] W fun e W' => e = .returned (.tuple #[.agg (dc K (0 : Nat)).toArray, .int .i64 0]) ∧ Below W.heap.size W W' := fun W => by
      have := div_r gd hy.gd W
      rwa [eD] at this
    have K6 : ∀ W : World, Calls Tryz.prog 36 #[.agg (dc K (0 : Nat)).toArray, .agg (dc n (t : Nat)).toArray] W fun e W' => e = .returned (.tuple #[.agg (dc dm (ds : Nat)).toArray, .int .i64 0]) ∧ Below W.heap.size W W' := fun W => by
      have := mul_r gk hy.gd W
      rwa [eM] at this
    exact fmod_go HF HT HV hz ha hb HA N1 N2 hn (fun W => cmp_r gr gd_zero W) (fun W => cmp_r hy.gd gd_zero W) (fun W => cmp_r gr hy.gd W) K4 K5 K6 h0 h1 h2 h3
end Go.Proofs.YtngkolcpbgibcaaGreatDoor
