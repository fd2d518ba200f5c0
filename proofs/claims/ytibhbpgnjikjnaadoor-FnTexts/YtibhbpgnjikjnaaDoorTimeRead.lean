/- What the program reads of a time's text. -/
import Derived.Test.YtibhbpgnjikjnaaDoorTimeEq
import Derived.Test.YtibhbpgnjikjnaaDoorSpans
import Derived.Deep.RegionHeld3
import Derived.BigRegion
namespace Go.Proofs.YtibhbpgnjikjnaaDoor
open Go.RowKit

def ckN (t : ByteArray) : Int := drN (t.extract 0 2) * 3600 + sixN (t.extract 2 5) * 60 + sixN (t.extract 5 8)
def ckB (t : ByteArray) : Bool := digs (t.extract 0 2) && (sixB (t.extract 2 5) && (sixB (t.extract 5 8) && decide (drN (t.extract 0 2) < 24)))
set_option maxHeartbeats 1000000 in
theorem impl_clockRead (t : ByteArray) (w : World) (h : t.size = 8) :
    Calls Tryd.prog 76 #[.string t] w fun e w' => e = .returned (.tuple #[.int .i64 (ckN t), .bool (ckB t)]) ∧ w' = w := by
  have hH := fun w => impl_digitsRead (t.extract 0 2) w (by rw [ByteArray.size_extract]; omega)
  have hM := fun w => impl_sixtieths (t.extract 2 5) w (by rw [ByteArray.size_extract]; omega)
  have hS := fun w => impl_sixtieths (t.extract 5 8) w (by rw [ByteArray.size_extract]; omega)
  have b1 := drN_bd (t.extract 0 2) (by rw [ByteArray.size_extract]; omega)
  have b2 := sixN_bd (t.extract 2 5)
  have b3 := sixN_bd (t.extract 5 8)
  unfold ckN ckB
  generalize drN (t.extract 0 2) = n1 at *
  generalize digs (t.extract 0 2) = o1 at *
  generalize sixN (t.extract 2 5) = n2 at *
  generalize sixB (t.extract 2 5) = o2 at *
  generalize sixN (t.extract 5 8) = n3 at *
  generalize sixB (t.extract 5 8) = o3 at *
  cases o1
  · go_enter Tryd.func76, Tryd.ntmps76
    go_wp2_with fail
    refine (hH _).mono ?_
    rintro e w1 ⟨rfl, rfl⟩
    go_wp2_with fail
    refine (hM _).mono ?_
    rintro e w2 ⟨rfl, rfl⟩
    go_wp2_with fail
    refine (hS _).mono ?_
    rintro e w3 ⟨rfl, rfl⟩
    go_wp2
    go_ret2
    exact ⟨by simp, rfl⟩
  · cases o2
    · go_enter Tryd.func76, Tryd.ntmps76
      go_wp2_with fail
      refine (hH _).mono ?_
      rintro e w1 ⟨rfl, rfl⟩
      go_wp2_with fail
      refine (hM _).mono ?_
      rintro e w2 ⟨rfl, rfl⟩
      go_wp2_with fail
      refine (hS _).mono ?_
      rintro e w3 ⟨rfl, rfl⟩
      go_wp2
      go_ret2
      exact ⟨by simp, rfl⟩
    · cases o3
      · go_enter Tryd.func76, Tryd.ntmps76
        go_wp2_with fail
        refine (hH _).mono ?_
        rintro e w1 ⟨rfl, rfl⟩
        go_wp2_with fail
        refine (hM _).mono ?_
        rintro e w2 ⟨rfl, rfl⟩
        go_wp2_with fail
        refine (hS _).mono ?_
        rintro e w3 ⟨rfl, rfl⟩
        go_wp2
        go_ret2
        exact ⟨by simp, rfl⟩
      · go_enter Tryd.func76, Tryd.ntmps76
        go_wp2_with fail
        refine (hH _).mono ?_
        rintro e w1 ⟨rfl, rfl⟩
        go_wp2_with fail
        refine (hM _).mono ?_
        rintro e w2 ⟨rfl, rfl⟩
        go_wp2_with fail
        refine (hS _).mono ?_
        rintro e w3 ⟨rfl, rfl⟩
        go_wp2
        go_ret2
        exact ⟨by simp, rfl⟩

theorem three_set {w : World} {b : Nat} {x0 x1 x2 v0 v1 v2 : Value} (h0 : w.cell? ⟨b, 0, none⟩ = some x0) (h1 : w.cell? ⟨b, 1, none⟩ = some x1) (h2 : w.cell? ⟨b, 2, none⟩ = some x2) :
    (((w.setCell ⟨b, 0, none⟩ v0).setCell ⟨b, 1, none⟩ v1).setCell ⟨b, 2, none⟩ v2).cell? ⟨b, 0, none⟩ = some v0 ∧ (((w.setCell ⟨b, 0, none⟩ v0).setCell ⟨b, 1, none⟩ v1).setCell ⟨b, 2, none⟩ v2).cell? ⟨b, 1, none⟩ = some v1 ∧ (((w.setCell ⟨b, 0, none⟩ v0).setCell ⟨b, 1, none⟩ v1).setCell ⟨b, 2, none⟩ v2).cell? ⟨b, 2, none⟩ = some v2 := by
  refine ⟨?_, ?_, ?_⟩
  · rw [World.cell?_setCell_other _ _ _ _ (by simp), World.cell?_setCell_other _ _ _ _ (by simp), World.cell?_setCell_same _ _ _ h0]
  · rw [World.cell?_setCell_other _ _ _ _ (by simp)]
    refine World.cell?_setCell_same _ _ _ (u := x1) ?_
    rw [World.cell?_setCell_other _ _ _ _ (by simp)]; exact h1
  · refine World.cell?_setCell_same _ _ _ (u := x2) ?_
    rw [World.cell?_setCell_other _ _ _ _ (by simp), World.cell?_setCell_other _ _ _ _ (by simp)]; exact h2
theorem tab_two {w : World} (hT : Tab w) {a b : Obj} : Tab ((w.alloc a).alloc b).drew := (hT.alloc a).alloc b
theorem below_two (w : World) (a b : Obj) : Below w.heap.size w ((w.alloc a).alloc b).drew :=
  below_drewN (((Below.refl _ _).alloc (Nat.le_refl _) a).alloc (by simp) b) 1
def ptB (t : ByteArray) : Bool := decide (byteAt t 4 = 45) && decide (byteAt t 7 = 45)
def dtB (t : ByteArray) : Bool := digs (t.extract 0 4) && (digs (t.extract 5 7) && (digs (t.extract 8 10) && (ptB t && vldB (drN (t.extract 0 4)) (drN (t.extract 5 7)) (drN (t.extract 8 10)))))
def dtV (t : ByteArray) : Value := .agg #[.int .i64 (drN (t.extract 0 4)), .int .i64 (drN (t.extract 5 7)), .int .i64 (drN (t.extract 8 10))]
set_option maxHeartbeats 2000000 in
theorem impl_dateRead (t : ByteArray) (w : World) (hT : Tab w) (h : t.size = 10) :
    Calls Tryd.prog 75 #[.string t] w fun e w' => e = .returned (.tuple #[dtV t, .bool (dtB t)]) ∧ Below w.heap.size w w' := by
  have hY := fun w => impl_digitsRead (t.extract 0 4) w (by rw [ByteArray.size_extract]; omega)
  have hM := fun w => impl_digitsRead (t.extract 5 7) w (by rw [ByteArray.size_extract]; omega)
  have hD := fun w => impl_digitsRead (t.extract 8 10) w (by rw [ByteArray.size_extract]; omega)
  have hR := fun w (hT : Tab w) => impl_DateRight (drN (t.extract 0 4)) (drN (t.extract 5 7)) (drN (t.extract 8 10)) w hT
  have q4 : ((t[4].toNat : Int) == 45) = decide (byteAt t 4 = 45) := by rw [byteAt_eq t 4 (by omega)]; rfl
  have q7 : ((t[7].toNat : Int) == 45) = decide (byteAt t 7 = 45) := by rw [byteAt_eq t 7 (by omega)]; rfl
  unfold dtV dtB ptB
  generalize drN (t.extract 0 4) = n1 at *
  generalize digs (t.extract 0 4) = o1 at *
  generalize drN (t.extract 5 7) = n2 at *
  generalize digs (t.extract 5 7) = o2 at *
  generalize drN (t.extract 8 10) = n3 at *
  generalize digs (t.extract 8 10) = o3 at *
  generalize vldB n1 n2 n3 = v at *
  generalize decide (byteAt t 4 = 45) = p4 at *
  generalize decide (byteAt t 7 = 45) = p7 at *
  cases p4
  · cases o1
    · go_enter Tryd.func75, Tryd.ntmps75
      go_wp2_with fail
      refine (hY _).mono ?_
      rintro e w1 ⟨rfl, rfl⟩
      go_wp2_with fail
      refine (hM _).mono ?_
      rintro e w2 ⟨rfl, rfl⟩
      go_wp2_with fail
      refine (hD _).mono ?_
      rintro e w3 ⟨rfl, rfl⟩
      go_wp2_with fail
      go_region
      go_wp2
      exact bodyPost_ret (v := .tuple #[.agg #[.int .i64 n1, .int .i64 n2, .int .i64 n3], .bool false]) (by simp [results, Tryd.results75, go_sem]) rfl ⟨by simp, below_two _ _ _⟩
    · cases o2
      · go_enter Tryd.func75, Tryd.ntmps75
        go_wp2_with fail
        refine (hY _).mono ?_
        rintro e w1 ⟨rfl, rfl⟩
        go_wp2_with fail
        refine (hM _).mono ?_
        rintro e w2 ⟨rfl, rfl⟩
        go_wp2_with fail
        refine (hD _).mono ?_
        rintro e w3 ⟨rfl, rfl⟩
        go_wp2_with fail
        go_region
        go_wp2
        exact bodyPost_ret (v := .tuple #[.agg #[.int .i64 n1, .int .i64 n2, .int .i64 n3], .bool false]) (by simp [results, Tryd.results75, go_sem]) rfl ⟨by simp, below_two _ _ _⟩
      · cases o3
        · go_enter Tryd.func75, Tryd.ntmps75
          go_wp2_with fail
          refine (hY _).mono ?_
          rintro e w1 ⟨rfl, rfl⟩
          go_wp2_with fail
          refine (hM _).mono ?_
          rintro e w2 ⟨rfl, rfl⟩
          go_wp2_with fail
          refine (hD _).mono ?_
          rintro e w3 ⟨rfl, rfl⟩
          go_wp2_with fail
          go_region
          go_wp2
          exact bodyPost_ret (v := .tuple #[.agg #[.int .i64 n1, .int .i64 n2, .int .i64 n3], .bool false]) (by simp [results, Tryd.results75, go_sem]) rfl ⟨by simp, below_two _ _ _⟩
        · go_enter Tryd.func75, Tryd.ntmps75
          go_wp2_with fail
          refine (hY _).mono ?_
          rintro e w1 ⟨rfl, rfl⟩
          go_wp2_with fail
          refine (hM _).mono ?_
          rintro e w2 ⟨rfl, rfl⟩
          go_wp2_with fail
          refine (hD _).mono ?_
          rintro e w3 ⟨rfl, rfl⟩
          go_wp2_with fail
          go_region
          go_wp2
          exact bodyPost_ret (v := .tuple #[.agg #[.int .i64 n1, .int .i64 n2, .int .i64 n3], .bool false]) (by simp [results, Tryd.results75, go_sem]) rfl ⟨by simp, below_two _ _ _⟩
  · cases p7
    · cases o1
      · go_enter Tryd.func75, Tryd.ntmps75
        go_wp2_with fail
        refine (hY _).mono ?_
        rintro e w1 ⟨rfl, rfl⟩
        go_wp2_with fail
        refine (hM _).mono ?_
        rintro e w2 ⟨rfl, rfl⟩
        go_wp2_with fail
        refine (hD _).mono ?_
        rintro e w3 ⟨rfl, rfl⟩
        go_wp2_with fail
        go_region
        go_wp2
        exact bodyPost_ret (v := .tuple #[.agg #[.int .i64 n1, .int .i64 n2, .int .i64 n3], .bool false]) (by simp [results, Tryd.results75, go_sem]) rfl ⟨by simp, below_two _ _ _⟩
      · cases o2
        · go_enter Tryd.func75, Tryd.ntmps75
          go_wp2_with fail
          refine (hY _).mono ?_
          rintro e w1 ⟨rfl, rfl⟩
          go_wp2_with fail
          refine (hM _).mono ?_
          rintro e w2 ⟨rfl, rfl⟩
          go_wp2_with fail
          refine (hD _).mono ?_
          rintro e w3 ⟨rfl, rfl⟩
          go_wp2_with fail
          go_region
          go_wp2
          exact bodyPost_ret (v := .tuple #[.agg #[.int .i64 n1, .int .i64 n2, .int .i64 n3], .bool false]) (by simp [results, Tryd.results75, go_sem]) rfl ⟨by simp, below_two _ _ _⟩
        · cases o3
          · go_enter Tryd.func75, Tryd.ntmps75
            go_wp2_with fail
            refine (hY _).mono ?_
            rintro e w1 ⟨rfl, rfl⟩
            go_wp2_with fail
            refine (hM _).mono ?_
            rintro e w2 ⟨rfl, rfl⟩
            go_wp2_with fail
            refine (hD _).mono ?_
            rintro e w3 ⟨rfl, rfl⟩
            go_wp2_with fail
            go_region
            go_wp2
            exact bodyPost_ret (v := .tuple #[.agg #[.int .i64 n1, .int .i64 n2, .int .i64 n3], .bool false]) (by simp [results, Tryd.results75, go_sem]) rfl ⟨by simp, below_two _ _ _⟩
          · go_enter Tryd.func75, Tryd.ntmps75
            go_wp2_with fail
            refine (hY _).mono ?_
            rintro e w1 ⟨rfl, rfl⟩
            go_wp2_with fail
            refine (hM _).mono ?_
            rintro e w2 ⟨rfl, rfl⟩
            go_wp2_with fail
            refine (hD _).mono ?_
            rintro e w3 ⟨rfl, rfl⟩
            go_wp2_with fail
            go_region
            go_wp2
            exact bodyPost_ret (v := .tuple #[.agg #[.int .i64 n1, .int .i64 n2, .int .i64 n3], .bool false]) (by simp [results, Tryd.results75, go_sem]) rfl ⟨by simp, below_two _ _ _⟩
    · cases o1
      · go_enter Tryd.func75, Tryd.ntmps75
        go_wp2_with fail
        refine (hY _).mono ?_
        rintro e w1 ⟨rfl, rfl⟩
        go_wp2_with fail
        refine (hM _).mono ?_
        rintro e w2 ⟨rfl, rfl⟩
        go_wp2_with fail
        refine (hD _).mono ?_
        rintro e w3 ⟨rfl, rfl⟩
        go_wp2_with fail
        go_region
        go_wp2
        exact bodyPost_ret (v := .tuple #[.agg #[.int .i64 n1, .int .i64 n2, .int .i64 n3], .bool false]) (by simp [results, Tryd.results75, go_sem]) rfl ⟨by simp, below_two _ _ _⟩
      · cases o2
        · go_enter Tryd.func75, Tryd.ntmps75
          go_wp2_with fail
          refine (hY _).mono ?_
          rintro e w1 ⟨rfl, rfl⟩
          go_wp2_with fail
          refine (hM _).mono ?_
          rintro e w2 ⟨rfl, rfl⟩
          go_wp2_with fail
          refine (hD _).mono ?_
          rintro e w3 ⟨rfl, rfl⟩
          go_wp2_with fail
          go_region
          go_wp2
          exact bodyPost_ret (v := .tuple #[.agg #[.int .i64 n1, .int .i64 n2, .int .i64 n3], .bool false]) (by simp [results, Tryd.results75, go_sem]) rfl ⟨by simp, below_two _ _ _⟩
        · cases o3
          · go_enter Tryd.func75, Tryd.ntmps75
            go_wp2_with fail
            refine (hY _).mono ?_
            rintro e w1 ⟨rfl, rfl⟩
            go_wp2_with fail
            refine (hM _).mono ?_
            rintro e w2 ⟨rfl, rfl⟩
            go_wp2_with fail
            refine (hD _).mono ?_
            rintro e w3 ⟨rfl, rfl⟩
            go_wp2_with fail
            go_region
            go_wp2
            exact bodyPost_ret (v := .tuple #[.agg #[.int .i64 n1, .int .i64 n2, .int .i64 n3], .bool false]) (by simp [results, Tryd.results75, go_sem]) rfl ⟨by simp, below_two _ _ _⟩
          · go_enter Tryd.func75, Tryd.ntmps75
            go_wp2_with fail
            refine (hY _).mono ?_
            rintro e w1 ⟨rfl, rfl⟩
            go_wp2_with fail
            refine (hM _).mono ?_
            rintro e w2 ⟨rfl, rfl⟩
            go_wp2_with fail
            refine (hD _).mono ?_
            rintro e w3 ⟨rfl, rfl⟩
            go_wp2_with fail
            go_region_held3 (fun w' => w'.cell? ⟨w.heap.size + 1, 0, none⟩ = some (.int .i64 n1) ∧ w'.cell? ⟨w.heap.size + 1, 1, none⟩ = some (.int .i64 n2) ∧ w'.cell? ⟨w.heap.size + 1, 2, none⟩ = some (.int .i64 n3)) (go_keep) ((go_at_call 20; refine (hR _ ?_).mono ?_; (exact tab_two hT); rintro e w4 ⟨rfl, hb⟩; obtain ⟨hc, hf⟩ := bcell hb; have hz : w.heap.size + 1 < w4.heap.size := by { have := hb.size; simp at this; omega }))
            all_goals
              go_wp2
              have hB : Below w.heap.size w w4 := (below_two w _ _).trans (hb.mono (by simp; omega))
              obtain ⟨r0, r1, r2⟩ := three_set (w := w4) (b := w.heap.size) (v0 := .int .i64 n1) (v1 := .int .i64 n2) (v2 := .int .i64 n3) (x0 := .int .i64 0) (x1 := .int .i64 0) (x2 := .int .i64 0) (by rw [hc _ _ (by simp; omega)]; simp) (by rw [hc _ _ (by simp; omega)]; simp) (by rw [hc _ _ (by simp; omega)]; simp)
              exact bodyPost_ret (v := .tuple #[.agg #[.int .i64 n1, .int .i64 n2, .int .i64 n3], .bool v]) (by simp [results, Tryd.results75, go_sem, r0, r1, r2]) rfl ⟨by simp, ((hB.setCell (Nat.le_refl _) _).setCell (Nat.le_refl _) _).setCell (Nat.le_refl _) _⟩
end Go.Proofs.YtibhbpgnjikjnaaDoor
