/- The law FnExactLive: the live events of a store, as the document has them; nothing of the store is changed -/
import Derived.Test.YtgiieknbckhofaaGreatDoorCkPs
import Derived.Test.YtgiieknbckhofaaGreatDoorWLives
import Derived.Test.YtgiieknbckhofaaGreatDoorClosedLives
set_option maxRecDepth 100000
set_option maxHeartbeats 20000000
set_option linter.unusedSimpArgs false
namespace Go.Proofs.YtgiieknbckhofaaGreatDoor.live
open Go.ChangeShapes Go.WideShapes Go.ChangeAt Go.RowKit
open Go.ChangeMaps (open_string shut_string)
theorem contract (H : Type) (enc : TypeId × Value -> H) (W : World) (base : Nat) (aY : Array Value) (ds gs : List (DataW H)) (dn : List MemPlace)
  (dG : ∀ (j : Nat) t v, Tryz.f3.params[j]? = some t -> aY[j]? = some v -> Value.okWide Tryz.prog W .any base t v)
  (hW : DataW.Whole enc Tryz.prog Tryz.f3.params.toList Rows.fnExactLiveSpec.vars false W aY.toList ds gs dn) (hL : laidMetH Tryz.prog Rows.fnExactLiveRow.laid W) (qM : W.ShapedOpen Tryz.prog) :
  Cl 3 aY W fun e W' => ∃ v, e = .returned v /\ Rows.fnExactLiveSpec.post enc Tryz.prog Tryz.f3 false true false false W aY v W' := by
 have vR := hW
 obtain ⟨p, q, et, hV, rfl, yZ, LH⟩ := hW
 have hA : DataW.TrodAll enc Tryz.prog W 0 (fun _ => true) true Tryz.f3.params.toList aY.toList ds p := et
 rw [Tryz.params3] at hA dG
 obtain ⟨v0, Nm, d0, K4, p0, q0, vV, rfl, rfl, h0, r0⟩ := trodAll_cons hA
 obtain ⟨rfl, rfl, rfl⟩ := trodAll_nil r0
 obtain rfl : aY = #[v0] := by cases aY; simp_all
 have k0 := h0
 have E5 : ∀ x ∈ p0, x.block < W.heap.size := by obtain ⟨m, hm⟩ := k0; exact DataW.trod_lt m _ _ _ hm
 obtain ⟨l0, lJ, lK⟩ := jk3 (dG 0 30 v0 rfl rfl) h0
 have hT : Tab W := jky hL
 have fg : Mx W := Tryz.laysM145.s1_3 W qM
 have hlt : ∀ x ∈ q, x.block < W.heap.size := fun x hx => vR.lt x (List.mem_append_right _ hx)
 obtain ⟨g, t, cs, mO, d, pv, rfl, _, _, _, _, _⟩ := trodVars_one hV
 refine (walk l0 v0 W lJ lK hT fg).mono fun e W' ⟨he, bel⟩ => ?_
 subst he
 refine ⟨_, rfl, _, _, _, [], _, q, vR, trodAll_mk1 (shut_bool Tryz.underlying4 _), trodAll_cons_mk (Below.trod jqt (by kernel_rfl) (odt (by kernel_rfl)) k0 bel E5) trodAll_mk0, jm9 hV hlt hT bel, bel.frame _, fun h => by cases h⟩
theorem laid_met (os : Os) : laidMet Tryz.prog Rows.fnExactLiveRow.laid ((jge (jk5 (World.holding Tryz.prog os ⟨#[], #[], []⟩))).forCall (fun _ _ => 0) ⟨#[], #[.agg #[iv 0, nS, nS, nS, nS, nS, nS, iv 0, nS, nS]], []⟩).memory :=
 laidMet_of_run' 8 (by kernel_rfl) (by kernel_rfl)
theorem reads (os : Os) {H : Type} (enc : TypeId × Value -> H) : ∃ eJ, DataW.whole enc Tryz.prog ((jge (jk5 (World.holding Tryz.prog os ⟨#[], #[], []⟩))).forCall (fun _ _ => 0) ⟨#[], #[.agg #[iv 0, nS, nS, nS, nS, nS, nS, iv 0, nS, nS]], []⟩).memory Tryz.f3.params.toList Rows.fnExactLiveSpec.vars false #[Value.agg #[iv 0, nS, nS, nS, nS, nS, nS, iv 0, nS, nS]].toList 8 = some ([.agg [.lit (.int .i64 0), .agg [.nil, .nil, .nil], .agg [.nil, .nil, .nil], .lit (.int .i64 0), .nil, .nil]], [Rows.laid_loop_example_g00364_impl_monthLengths], eJ) :=
 ⟨MemPlace.row (ad (0) 0) 13, by kernel_rfl⟩
theorem lifted (os : Os) (cp : os.Started) (H : Type) (enc : TypeId × Value -> H) (F : Stop.Interp) :
  ReturnsInHanded {} Tryz.checked os 3 .any ((OpenSpec.ofChange Rows.fnExactLiveSpec).preRow enc Tryz.prog Tryz.f3 Rows.fnExactLiveRow.domain false Rows.fnExactLiveRow.laid) (((OpenSpec.ofChange Rows.fnExactLiveSpec).at F).post enc Tryz.prog Tryz.f3 false true false false) := by
 obtain ⟨eJ, hx⟩ := reads os enc
 refine returnsInHanded_of_row (C := Tryz.checked) (s := OpenSpec.ofChange Rows.fnExactLiveSpec) own cp (by kernel_rfl) Tryz.func3
  (witness_row_at (enc := enc) (C := Tryz.checked) false (jge (jk5 (World.holding Tryz.prog os ⟨#[], #[], []⟩))) #[.agg #[iv 0, nS, nS, nS, nS, nS, nS, iv 0, nS, nS]] rfl (by kernel_rfl) (by kernel_rfl) (by kernel_rfl)
   (OpenSpec.preRow_of_cond 8 hx (by kernel_rfl) (fun k hk => by cases hk) (by kernel_rfl) (laid_met os))) ?_
 intro W base aY ds gs dn dG hW _ _ _ hL qM _
 exact contract H enc W base aY ds gs dn dG hW hL qM
theorem said : Rows.FnExactLiveSaid :=
 OpenClaim.holds_of_cond 3 Tryz.f3 rfl rfl rfl rfl rfl rfl rfl ⟨rfl, rfl, rfl, rfl, rfl⟩ rfl rfl rfl rfl rfl (by kernel_rfl) Tryz.func3 closed
  (odt (by kernel_rfl)) (by unfold Func.isWrapper; first | (rw [if_pos (by decide +kernel)]; kernel_rfl) | (rw [if_neg (by decide +kernel)]; exact ⟨rfl, rfl⟩))
  (fun os cp H enc _ F => by rw [OpenClaim.pre_eq_preRow]; exact lifted os cp H enc F)
theorem plain (f : FuncId) (fn : Func) (hf : Tryz.pinned.checked.prog.funcNamed "loop.example/g00364/laws.FnExactLive" = some f) (re : Tryz.pinned.checked.prog.funcs[f]? = some fn) :
  false = Tryz.pinned.checked.prog.looks [] /\ ∀ (j : Nat) t, fn.params[j]? = some t -> Tryz.pinned.checked.prog.wantsStandIn t = false := by
 obtain rfl : f = 3 := osi ((show Tryz.prog.funcNamed "loop.example/g00364/laws.FnExactLive" = some 3 by kernel_rfl).symm.trans hf) |>.symm
 obtain rfl : fn = Tryz.f3 := (osi (Tryz.func3.symm.trans re)).symm
 refine ⟨by kernel_rfl, fun j t ht => ?_⟩
 rw [Tryz.params3] at ht
 have hm : t ∈ [30] := by simpa using Array.mem_of_getElem? ht
 have ak : ([30].all fun u => !Tryz.prog.wantsStandIn u) = true := by kernel_rfl
 exact (show Tryz.prog.wantsStandIn t = false by simpa using List.all_eq_true.1 ak t hm)
end Go.Proofs.YtgiieknbckhofaaGreatDoor.live
namespace Go.Proofs.YtgiieknbckhofaaGreatDoor
theorem live_card : Rows.FnExactLiveCardSaid :=
 Claim7.holds_tied_plain_at .later [] _ _ _ _ live.said (fun _ h => by cases h) (by kernel_rfl) (fun _ h => by cases h) fnExactLive_row_tie rfl ⟨rfl, rfl⟩ (by kernel_rfl) rfl live.plain (by kernel_rfl)
end Go.Proofs.YtgiieknbckhofaaGreatDoor
