/- The program's DeskLines: what panics is recovered, and nothing is told. -/
import Derived.Test.YtfdnniedcfeiiaaDoorD4
import Derived.Defers
import Derived.Recover
import Derived.Laws.Pointers
namespace Go.Proofs.YtfdnniedcfeiiaaDoor
open Go.RowKit

theorem catch_panicking (u : TypeId) (pv : Value) (older : List PanicEntry) (w : World) :
    CallsD Tryd.prog 11 #[] (.panicking ({ v := .iface u pv, recovered := false } :: older)) w fun e u' w' =>
      e = .returned (.tuple #[]) ∧ u' = .panicking ({ v := .iface u pv, recovered := true } :: older) ∧ w' = w := by
  refine callsD_of_wpS Tryd.func11 rfl fun c₀ cs hu => ?_
  apply wpS_region
  simp [wpOpsS, go_sem, recoverD, hu, Tryd.ntmps11, bodyPostS, results, Tryd.results11]
theorem catch_idle (w : World) :
    CallsD Tryd.prog 11 #[] .returning w fun e u' w' => e = .returned (.tuple #[]) ∧ u' = .returning ∧ w' = w := by
  refine callsD_of_wpS Tryd.func11 rfl fun c₀ cs hu => ?_
  apply wpS_region
  simp [wpOpsS, go_sem, recoverD, hu, Tryd.ntmps11, bodyPostS, results, Tryd.results11]
  cases c₀
  simp_all
set_option maxRecDepth 20000 in
set_option maxHeartbeats 4000000 in
theorem impl_DeskLines (s : ByteArray) (p : Addr) (w : World) (hs : s.size ≤ 9223372036854775807) (hp : ErrAt w p) :
    Calls Tryd.prog 5 #[.string s] w (RowP (deskL s) w) := by
  have hmf : ∀ (fn : Fn) (first cap : Array Value) (w : World), (Instr.makeFunc fn first cap).run Tryd.prog w = .ok (.func fn first cap) w := fun _ _ _ _ => rfl
  by_cases hlong : s.size ≤ 8000
  · have hst := impl_standing s p w hlong hp
    cases hb : deskB s
    · have HL : Hid (deskL s = []) := deskL_no hb
      go_enter_defers Tryd.func5, Tryd.ntmps5
      go_wp2_with fail
      refine hst.mono ?_
      intro e w1 h1
      obtain ⟨rfl, hbel⟩ := h1.no hb
      clear h1 hst
      refine leaves_cons (f := 11) (args := #[]) (by simp) (by simp [go_sem]) ?_
      refine (catch_panicking _ _ [] _).mono ?_
      rintro e u' w'' ⟨rfl, rfl, rfl⟩
      simp only [settle]
      refine ⟨_, results_tmp rfl _ _ _, ⟨_, rfl, by rw [HL.out]; exact World.ownsRow_nil _ _ _ _, hbel⟩⟩
    · have HL : Hid (deskL s = (lfs s s.size).1) := deskL_yes hlong hb
      go_enter_defers Tryd.func5, Tryd.ntmps5
      go_wp2_with fail
      refine hst.mono ?_
      intro e w1 h1
      obtain ⟨v, rfl, hown, hbel⟩ := (h1.yes hb).ex
      clear h1 hst
      go_wp2
      refine leaves_cons (f := 11) (args := #[]) (by simp) (by simp [go_sem]) ?_
      refine (catch_idle _).mono ?_
      rintro e u' w'' ⟨rfl, rfl, rfl⟩
      simp only [settle]
      refine ⟨_, results_tmp rfl _ _ _, ⟨_, rfl, by rw [HL.out]; exact hown, hbel⟩⟩
  · have HL : Hid (deskL s = []) := deskL_long hlong
    go_enter_defers Tryd.func5, Tryd.ntmps5
    go_wp2
    exact ⟨_, results_tmp rfl _ _ _, ⟨_, rfl, by rw [HL.out]; exact World.ownsRow_nil _ _ _ _, Below.refl _ _⟩⟩
end Go.Proofs.YtfdnniedcfeiiaaDoor
