/- Fits: the base: the tables of grades as a fact that lasts; ends with three results. -/
import Derived.Test.YtmjkiccoimhfkaaDoorGb
import Derived.Test.YtmjkiccoimhfkaaDoorG8
import Derived.Test.YtmjkiccoimhfkaaDoorOr2
import Derived.Test.YtmjkiccoimhfkaaDoorOck
namespace Go.Proofs.YtmjkiccoimhfkaaDoor
open Go.RowKit

def Gl (w : World) : Prop := Glo w
section
variable {w a : World}
theorem Gl.kb (h : Gl a) (k : Kb a w) : Gl w := Glo.kb h k
theorem Gl.alloc (h : Gl w) (o : Obj) : Gl (w.alloc o) := h.kb ((Kb.refl _).alloc o)
theorem Gl.drew (h : Gl w) : Gl w.drew := h.kb (show Kb w w.drew from (Kb.refl _).drew)
theorem Gl.kx {L : List Nat} (h : Gl a) (k : Kx L a w) (hn : L = []) : Gl w := by subst hn; exact h.kb k.nil
end
/-- what a call gives, in every world that has the tables -/
def Cg (n : Nat) (args : Array Value) (v : Value) : Prop := Hid (∀ W : World, Gl W → Calls Tryd.prog n args W fun r w' => r = .returned v ∧ Kb W w')
theorem Cg.out {n : Nat} {args : Array Value} {v : Value} (h : Cg n args v) (W : World) (g : Gl W) : Calls Tryd.prog n args W fun r w' => r = .returned v ∧ Kb W w' := h W g
theorem Ca.o {n : Nat} {args : Array Value} {v : Value} (h : Ca n args v) (W : World) : Calls Tryd.prog n args W fun r w' => r = .returned v ∧ Kb W w' := h W
theorem Ca.cg {n : Nat} {args : Array Value} {v : Value} (h : Ca n args v) : Cg n args v := Lib.hid fun W _ => h.o W
theorem Gq.cg {n : Nat} {args : Array Value} {v : Value} (h : Gq n args v) : Cg n args v := h
theorem Cg.to {n : Nat} {args : Array Value} {u v : Value} (h : Cg n args u) (e : u = v) : Cg n args v := e ▸ h
theorem results_cct {fn : Func} {p q u : Tmp} {ty ty2 : TypeId} (h : fn.results = #[.cell p ty, .cell q ty2, .tmp u]) (tmps : Array Value) (P : Program) (w : World) :
    (results fn tmps).run P w = ((asAddr (tmps.getD p undef)).run P w).andThen fun a w₁ => ((loadVar ty a).run P w₁).andThen fun v w₂ => ((asAddr (tmps.getD q undef)).run P w₂).andThen fun a2 w₃ => ((loadVar ty2 a2).run P w₃).andThen fun v2 w₄ => .ok (.tuple #[v, v2, tmps.getD u undef]) w₄ := by
  simp only [results, h]
  simp [Sem.run_bind, Result.andThen]
/-- a function's end with two structs in blocks of their own and a word -/
theorem ret_row3 {P : Program} {fn : Func} {p q u : Tmp} {ty ty2 T T2 : TypeId} {a : Act} {w : World} {R : Ending → World → Prop} {b b2 : Nat} {cs cs2 : Array Value} {d d2 : TypeDesc} {v : Value} (h : fn.results = #[.cell p ty, .cell q ty2, .tmp u]) (hd : a.defers = []) (hp : a.tmps.getD p undef = .pointer (some ⟨b, 0, none⟩)) (hq : a.tmps.getD q undef = .pointer (some ⟨b2, 0, none⟩)) (hv : a.tmps.getD u undef = v) (is : Is w b cs T) (is2 : Is w b2 cs2 T2)
    (hu : P.underlying ty = some d) (hdd : (match d with | .struct _ | .array _ _ => true | _ => false) = true) (hi : (P.info? ty).map (·.size) = some cs.size) (hu2 : P.underlying ty2 = some d2) (hdd2 : (match d2 with | .struct _ | .array _ _ => true | _ => false) = true) (hi2 : (P.info? ty2).map (·.size) = some cs2.size) (hR : R (.returned (.tuple #[.agg cs, .agg cs2, v])) w) : bodyPost P fn R .ret a w :=
  bodyPost_ret (by rw [results_cct h a.tmps P w, hp, hq, hv]; simp [asAddr, Result.andThen, run_loadVar_row w b T ty cs (0, 0) d is hu hdd hi, run_loadVar_row w b2 T2 ty2 cs2 (0, 0) d2 is2 hu2 hdd2 hi2]) hd hR
/-- a function's end with three words -/
theorem ret3 {P : Program} {fn : Func} {p q u : Tmp} {a : Act} {w : World} {R : Ending → World → Prop} {x y z : Value} (h : fn.results = #[.tmp p, .tmp q, .tmp u]) (hd : a.defers = []) (hp : a.tmps.getD p undef = x) (hq : a.tmps.getD q undef = y) (hv : a.tmps.getD u undef = z) (hR : R (.returned (.tuple #[x, y, z])) w) : bodyPost P fn R .ret a w :=
  bodyPost_ret (by rw [results_tmp3 h, hp, hq, hv]) hd hR
end Go.Proofs.YtmjkiccoimhfkaaDoor
