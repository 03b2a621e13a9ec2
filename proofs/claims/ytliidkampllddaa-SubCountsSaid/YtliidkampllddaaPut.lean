/- sub.putStream by its contract. Conditions: the row is the call's own; the substream reads as such. -/
import Derived.Test.YtliidkampllddaaClone
import Derived.Test.YtliidkampllddaaCheck
import Derived.Test.YtliidkampllddaaToAll
namespace Go.Proofs.Ytliidkampllddaa
open Go.RowKit

def Mine (v : Value) (i : Nat) : Prop := v.ownBlock = some i

theorem Grew.move {w w' : World} {v v' : Value} (g : Grew w w' v v') : Move w (But w (Mine v)) w' (But w' (Mine v')) :=
  But.move (T := fun i => some i = v.ownBlock) (Keep.of_grew g fun _ h => h) (fun i _ h => h.symm) fun i hi h => by
    rcases g.lies with hl | ⟨q, hl, hq⟩
    · exact hl.symm.trans h
    · rw [Mine, hl] at h; injection h with h; omega

theorem below_move {w w' : World} {B : Nat} {M : Nat → Prop} (hb : Below B w w') (hB : w.heap.size ≤ B) : Move w (But w M) w' (But w' M) :=
  But.move (T := fun i => w.heap.size ≤ i) (Keep.of_below hb fun i _ h => by omega) (fun i hi h => by omega) fun i _ h => h

/-- One element more. -/
theorem OwnF.app {α : Type} {f : Form α} {w w1 w2 : World} {S : List (List Value × α)} {L : List α} {v v2 : Value} {base : Nat} {e : TypeId} {cs : List Value} {x : α} (h1 : S.map (·.2) = L) (h2 : ∀ p ∈ S, f.R w (But w (Mine v)) p.1 p.2)
    (hb : Below w.heap.size w w1) (g : Grew w1 w2 v v2) (hx : f.R w1 (But w1 (Mine v)) cs x) (ho : w2.ownsRow base e f.k v2 (L.length + 1) (S.flatMap (·.1) ++ cs)) : OwnF f w2 (But w2 (Mine v2)) base e v2 (L ++ [x]) :=
  OwnF.snoc h1 h2 ((below_move hb (Nat.le_refl _)).trans g.move) (f.move g.move hx) ho

/-- A record of data and cuts just made. -/
theorem recForm_own {w : World} {base : Nat} {v dv cv : Value} {r : RecM} (hd : w.ownsRow base 5 1 dv r.data.length (r.data.map bv)) (hc : w.ownsRow base 3 1 cv r.cuts.length (r.cuts.map iv)) (hf : Fit r.type)
    (hv : ∀ i, v.ownBlock = some i → i < base) (h1 : r.data.length ≤ 1000000000000000000) (h2 : r.cuts.length ≤ 1000000000000000000) : recForm.R w (But w (Mine v)) [.int .i64 r.type, dv, cv, .int .i64 r.at_] r := by
  obtain ⟨D, dc, rfl, hdc, rd⟩ := own_rdF (F := But w (Mine v)) hd fun i hi => ⟨(hd.lt i hi).2, fun h => by have := hv i h; have := (hd.lt i hi).1; omega⟩
  obtain ⟨C, cc, rfl, hcc, rc⟩ := own_rdF (F := But w (Mine v)) hc fun i hi => ⟨(hc.lt i hi).2, fun h => by have := hv i h; have := (hc.lt i hi).1; omega⟩
  exact ⟨D, dc, C, cc, rfl, rd, rc, ⟨hdc, h1⟩, ⟨hcc, h2⟩, hf⟩

def bofR (k : Int) : RecM := ⟨2057, b2 k, [], 0⟩
def eofR : RecM := ⟨10, [], [], 0⟩
def at0 (r : RecM) : RecM := ⟨r.type, r.data, r.cuts, 0⟩
def putSM (s : StreamM) : List RecM := bofR s.kind :: (s.recs.map at0 ++ [eofR])

theorem bof_form {w w' : World} {B : Nat} {v : Value} {k : Int} (hk : 0 ≤ k ∧ k < 65536) (hb : Below B (w.alloc (.cells #[.int .u8 (k % 256), .int .u8 (k / 256)] 5)) w') (hB : w.heap.size + 1 ≤ B) (hv : ∀ i, v.ownBlock = some i → i < w.heap.size) :
    recForm.R w' (But w' (Mine v)) [.int .i64 2057, .slice (some ⟨w.heap.size, 0, none⟩) 2 2, .slice none 0 0, .int .i64 0] (bofR k) := by
  have hs := hb.size
  rw [World.size_alloc] at hs
  have h := (Rd.fresh w 5 1 2 [.int .u8 (k % 256), .int .u8 (k / 256)] rfl).below (hb.mono hB)
  rw [← b2_map k hk] at h
  refine ⟨_, _, none, 0, rfl, ?_, ⟨rfl, fun h => absurd h (by simp [bofR])⟩, ⟨Nat.le_refl _, by simp [bofR, b2]⟩, ⟨Nat.le_refl _, by simp [bofR]⟩, by simp [bofR, Fit]⟩
  refine ⟨by simp [bofR, b2], fun _ => ⟨_, rfl, ⟨by show w.heap.size < _; omega, fun hm => Nat.lt_irrefl _ (hv _ hm)⟩, ?_⟩⟩
  obtain ⟨a, ha, _, hc⟩ := h.at_ (by omega)
  injection ha with ha
  subst ha
  exact hc

theorem eof_form {w : World} {F : Nat → Prop} : recForm.R w F [.int .i64 10, .slice none 0 0, .slice none 0 0, .int .i64 0] eofR :=
  ⟨none, 0, none, 0, rfl, ⟨rfl, fun h => absurd h (by simp [eofR])⟩, ⟨rfl, fun h => absurd h (by simp [eofR])⟩, ⟨Nat.le_refl _, by simp [eofR]⟩, ⟨Nat.le_refl _, by simp [eofR]⟩, by simp [eofR, Fit]⟩

set_option maxHeartbeats 2000000 in
theorem putStream_any {w : World} {base B n c : Nat} {v : Value} {L R : List RecM} {A : Option Addr} {kind : Int} (h : OwnF recForm w (But w (Mine v)) base 49 v L) (hb : base ≤ w.heap.size) (hr : RecsRd w B A n R) (hB : B ≤ base)
    (hk : 0 ≤ kind ∧ kind < 65536) (hn : n ≤ 1000000) (hL : L.length ≤ 1000000000) (hR : ∀ r ∈ R, Wide r) :
    Calls Try.prog 23 #[v, .agg #[.int .i64 kind, .slice A n c]] w fun e w' => ∃ v', e = .returned v' ∧ OwnF recForm w' (But w' (Mine v')) base 49 v' (L ++ putSM ⟨kind, R⟩) ∧ Below base w w' := by
  obtain ⟨S, hS1, hS2, ho⟩ := h.ex
  obtain ⟨Av, vc, rfl, _⟩ := h.form
  have hlt := h.lt
  clear h
  have k0 := hk.1
  have k1 : kind < 65536 := hk.2
  have s0 : w.heap.size + 1 ≤ (w.alloc (.cells #[.int .i64 kind, .slice A n c] 41)).heap.size := by simp
  have b0 : Below w.heap.size w (w.alloc (.cells #[.int .i64 kind, .slice A n c] 41)) := (Below.refl _ _).alloc (Nat.le_refl _) _
  have o0 : (w.alloc (.cells #[.int .i64 kind, .slice A n c] 41)).ownsRow base 49 4 (.slice Av L.length vc) L.length (S.flatMap (·.1)) := ho.alloc _
  have kb : Bk (w.alloc (.cells #[.int .i64 kind, .slice A n c] 41)) w.heap.size 41 #[.int .i64 kind, .slice A n c] := Bk.new w _ _
  go_enter Try.func23, Try.ntmps23
  go_wp2_with fail
  generalize w.alloc (.cells #[.int .i64 kind, .slice A n c] 41) = w0 at *
  refine (put16_any hk).mono ?_
  rintro e w1 ⟨rfl, hw1⟩
  have b1 : Below w0.heap.size w0 w1 := by rw [hw1]; exact (Below.refl _ _).alloc (Nat.le_refl _) _
  have o1 : w1.ownsRow base 49 4 (.slice Av L.length vc) L.length (S.flatMap (·.1)) := own_below o0 b1
  have hx := bof_form (w' := w1) (v := .slice Av L.length vc) (B := w0.heap.size + 1) hk (by rw [← hw1]; exact Below.refl _ _) (Nat.le_refl _) (fun i hi => by have := (hlt i hi).2; omega)
  have s1 := b1.size
  clear hw1 o0
  go_wp2_with (at_builtin; refine wpList_app recsRow rfl (.tmp 7) (.tmp 12) rfl rfl rfl (o1.alloc _) (Rd.fresh _ _ 4 1 _ rfl) ?_ ?_ ?_ ?_ ?_)
  · intro u hu; simp at hu; rcases hu with rfl | rfl | rfl | rfl <;> rfl
  · unfold maxLen; omega
  · omega
  · simp; omega
  intro v2 w2 o2 g2 _
  have O2 : OwnF recForm w2 (But w2 (Mine v2)) base 49 v2 (L ++ [bofR kind]) :=
    OwnF.app (w1 := w1.alloc (.cells #[.int .i64 2057, .slice (some ⟨w0.heap.size, 0, none⟩) 2 2, .slice none 0 0, .int .i64 0] 49)) hS1 (fun p hp => hS2 p hp)
      ((b0.trans (b1.mono (by omega))).trans ((Below.refl _ _).alloc (by omega) _)) g2 (recForm.move (below_move ((Below.refl _ _).alloc (Nat.le_refl _) _) (Nat.le_refl _)) hx) o2
  have b2_ : Below base w0 w2 := (b1.mono (by omega)).trans (((Below.refl _ _).alloc (by omega) _).trans (g2.below (o1.alloc _) (by simp; omega)))
  have K2 : Keep (fun i => (Value.slice Av L.length vc).ownBlock = some i) w0 w2 :=
    ((Keep.of_below b1 (S := fun i => (Value.slice Av L.length vc).ownBlock = some i) fun i hi h => by omega).alloc _).trans (Keep.of_grew g2 (S := fun i => (Value.slice Av L.length vc).ownBlock = some i) fun i h => h.symm) fun i _ h => h
  have kb2 := K2.bk kb (fun h => by have := (hlt _ h).2; omega)
  have s2 := b2_.size
  obtain ⟨A2, c2, e2, _⟩ := O2.form
  rw [show (L ++ [bofR kind]).length = L.length + 1 by simp] at e2
  subst e2
  have q0 : w2.cell? ⟨w.heap.size, 0, none⟩ = some (.int .i64 kind) := kb2.cell 0
  have q1 : w2.cell? ⟨w.heap.size, 1, none⟩ = some (.slice A n c) := kb2.cell 1
  have r2 := hr
  have hbw : Below base w w2 := (b0.mono hb).trans b2_
  have sw := hbw.size
  clear o2 g2 K2 kb2 kb hx o1 b1 b0 b2_ hS1 hS2 ho hr s0 s1 s2 sw hlt
  go_wp2
  go_loopw [0, 17] (fun v i wr => ∃ k : Nat, k ≤ n ∧ i = .int .i64 k ∧ OwnF recForm wr (But wr (Mine v)) base 49 v (L ++ [bofR kind] ++ (R.take k).map at0) ∧ Below base w wr) (fun _ i _ => n - (intOf i).toNat)
  case atStart => exact ⟨0, Nat.zero_le _, rfl, by simpa using O2, hbw⟩
  case round =>
    obtain ⟨k, hk, rfl, O, hbel⟩ := hrel
    have hs := hbel.size
    have hrl := r2.len
    have hlen : (L ++ [bofR kind] ++ (R.take k).map at0).length = L.length + 1 + k := by simp; omega
    have HT0 := Lib.hid (show (L ++ [bofR kind] ++ (R.take n).map at0) ++ [eofR] = L ++ putSM ⟨kind, R⟩ by rw [List.take_of_length_le (by omega)]; simp [putSM])
    obtain ⟨S, hS1, hS2, ho⟩ := O.ex
    obtain ⟨Ak, ck, rfl, _⟩ := O.form
    have hlt2 := O.lt
    clear O O2
    by_cases hkn : k < n
    · obtain ⟨a, rfl, hab, hall⟩ := r2.at_ (by omega)
      have hkl : k < R.length := by omega
      obtain ⟨D, dc, C, cc, hr⟩ := hall k R[k] (List.getElem?_eq_getElem hkl)
      have hwd := hR R[k] (List.getElem_mem hkl)
      clear hall
      have hr' := hr.below hbel hB
      have HT : Hid ((L ++ [bofR kind] ++ (R.take k).map at0) ++ [at0 R[k]] = L ++ [bofR kind] ++ (R.take (k + 1)).map at0) := Lib.hid (by rw [← List.take_append_getElem hkl, List.map_append, ← List.append_assoc]; rfl)
      generalize R[k] = r at *
      have c0 := hr'.c0
      have c1 := hr'.c1
      have c2 := hr'.c2
      have c3 := hr'.c3
      have hkn' : (k : Int) < (n : Int) := by omega
      have Hlen := Lib.hid hlen
      generalize L ++ [bofR kind] ++ (R.take k).map at0 = LL at *
      have l1 : LL.length ≤ 1001000001 := by omega
      clear hlen hrl hkl
      go_wp2_with fail
      refine (subClone_any (hr'.rd.data.below (((Below.refl _ _).alloc (by omega) _))) (hr'.rd.cuts.below (((Below.refl _ _).alloc (by omega) _))) (by simp; omega) hwd.1 hwd.2).mono ?_
      rintro e w3 ⟨dv, cv, rfl, od, oc, hb3⟩
      obtain ⟨Dv, dvc, rfl, _, _, _⟩ := own_form od
      obtain ⟨Cv, cvc, rfl, _, _, _⟩ := own_form oc
      have hb3' : Below wr.heap.size wr w3 := ((Below.refl _ _).alloc (Nat.le_refl _) _).trans (hb3.mono (by simp))
      have o3 : w3.ownsRow base 49 4 (.slice Ak LL.length ck) LL.length (S.flatMap (·.1)) := own_below ho hb3'
      have hx : recForm.R w3 (But w3 (Mine (.slice Ak LL.length ck))) [.int .i64 r.type, .slice Dv r.data.length dvc, .slice Cv r.cuts.length cvc, .int .i64 0] (at0 r) :=
        recForm_own (r := at0 r) od oc hr'.rd.fit (fun i hi => by have := (hlt2 i hi).2; simp; omega) hr'.rd.dcap.2 hr'.rd.ccap.2
      have s3 := hb3'.size
      clear c0 c1 c2 c3 hb3
      go_wp2_with (at_builtin; refine wpList_app recsRow rfl (.tmp 21) (.tmp 24) rfl rfl rfl (o3.alloc _) (Rd.fresh _ _ 4 1 _ rfl) ?_ ?_ ?_ ?_ ?_)
      · intro u hu; simp at hu; rcases hu with rfl | rfl | rfl | rfl <;> rfl
      · unfold maxLen; omega
      · omega
      · simp; omega
      intro v4 w4 o4 g4 _
      have O4 : OwnF recForm w4 (But w4 (Mine v4)) base 49 v4 (LL ++ [at0 r]) :=
        OwnF.app (w1 := w3.alloc (.cells #[.int .i64 r.type, .slice Dv r.data.length dvc, .slice Cv r.cuts.length cvc, .int .i64 0] 49)) hS1 (fun p hp => hS2 p hp)
          (hb3'.trans ((Below.refl _ _).alloc (by omega) _)) g4 (recForm.move (below_move ((Below.refl _ _).alloc (Nat.le_refl _) _) (Nat.le_refl _)) hx) o4
      have b4 : Below base w w4 := (hbel.trans (hb3'.mono (by omega))).trans (((Below.refl _ _).alloc (by omega) _).trans (g4.below (o3.alloc _) (by simp; omega)))
      rw [HT.out] at O4
      clear o4 g4 hx o3 hb3' hS1 hS2 ho HT Hlen HT0 od oc
      go_wp2
      go_roundw
      case rel => exact ⟨k + 1, by omega, by go_num, O4, b4⟩
      case measure => simp [intOf]; omega
    · obtain rfl : k = n := by omega
      have Hlen := Lib.hid hlen
      generalize L ++ [bofR kind] ++ (R.take k).map at0 = LL at *
      have l1 : LL.length ≤ 1001000001 := by omega
      clear hlen hrl
      go_wp2_with (at_builtin; refine wpList_app recsRow rfl (.tmp 27) (.tmp 29) rfl rfl rfl (ho.alloc _) (Rd.fresh _ _ 4 1 _ rfl) ?_ ?_ ?_ ?_ ?_)
      · intro u hu; simp at hu; rcases hu with rfl | rfl | rfl | rfl <;> rfl
      · unfold maxLen; omega
      · omega
      · simp; omega
      intro v4 w4 o4 g4 _
      have O4 : OwnF recForm w4 (But w4 (Mine v4)) base 49 v4 (LL ++ [eofR]) :=
        OwnF.app (w1 := wr.alloc (.cells #[.int .i64 10, .slice none 0 0, .slice none 0 0, .int .i64 0] 49)) hS1 (fun p hp => hS2 p hp) ((Below.refl _ _).alloc (Nat.le_refl _) _) g4 eof_form o4
      have b4 : Below base w w4 := hbel.trans (((Below.refl _ _).alloc (by omega) _).trans (g4.below (ho.alloc _) (by simp; omega)))
      rw [HT0.out] at O4
      clear o4 g4 hS1 hS2 ho HT0 Hlen
      go_wp2
      go_ret
      exact ⟨_, rfl, O4, b4⟩
end Go.Proofs.Ytliidkampllddaa
