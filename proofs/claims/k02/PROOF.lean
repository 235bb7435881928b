import PyProof.Rows.All
import Wide.All
import OpenK.AllK
import Wide.FinOn
import KE.KStateDown
import HandS.ForMost
import HandS.ForExc
import HandS.Defaults
import HandS.Property
import HandS.MakeKw
import HandS.IsInst
import HandS.Flow
import HandS.Style
import HandS.Wide
import HandS.OwnEq
import HandS.Conv
import HandS.Deep
import HandS.Head0
import HandS.Head1
import HandS.Head2
import HandS.HeadEnd
import HandS.HeadHook1
import HandS.HeadHook2
import KE.GoesMore
import OpenK.KOps
import KE.KOpsOwn
import HandS.MakeKwOnly
import HandS.FStr
import HandS.List
import HandS.TupAny
import HandS.More
import HandS.ExcInit
import KE.KExcInit
import HandS.Exc
import HandS.ExcOwn
import HandS.ExcIs
import HandS.ExcField
import KE.KExcIs
import HandS.HotCalls
import HandS.Dict
import KE.KCallOwn
import PyProof.Conv_bool
import PyProof.Rows.FactsN_abs
import HandS.SetFor
import HandS.Strs
import HandS.Zip
import OpenK.KMeth
import PyProof.SumAny
import PyProof.ReprNest
import PyProof.ReprRoads
import PySem.Challenge.RW_rainvalleys_k02_fractions_added_and_mult
set_option Elab.async false
set_option linter.all false
set_option maxRecDepth 100000
set_option maxHeartbeats 4000000
/-! Words of this proof: operators on values by short names, the steps of a reading, what a call of a def asks. -/
namespace Rv
open PySem PySem.Spec PyProof.Rows L2
abbrev cInt : List V → Hp → VK → Prop := fun xs H Q => (∃ i, xs = [.int i] ∧ Q (.int i) H) ∨ ∃ k, xs = [.bl k] ∧ Q (.int (if k then 1 else 0)) H
abbrev cAbs : List V → Hp → VK → Prop := fun xs H Q => ∃ i, xs = [.int i] ∧ Q (.int (if i < 0 then -i else i)) H
section
variable {K : PySem.W.Frag} {σ : L2.St} {H : Hp} {Q : VK} {D : Ends} {v x y : V} {i j : Int} {n : Nat} {ta tb te to ti : TE} {t u c : TT} {tr : TA} {b : Bool} {r : R2} {s1 s2 : TS} {g : TG} {p : Addr} {xs : List V} {TQ : Bool → Hp → Prop} {AQ : List V → Hp → Prop} {HQ : Hp → Prop} {GQ : L2.St → Hp → Prop}
theorem w_var (h : σ[n]? = some (some v)) (q : Q v H) : tVar n σ H Q := ⟨v, h, q⟩
theorem w_c (q : Q v H) : tC v σ H Q := q
theorem w_op (q : ta σ H fun x H1 => tb σ H1 fun y H2 => r x y H2 Q) : tOp r ta tb σ H Q := q
theorem w_un {r : V → Hp → VK → Prop} (q : ta σ H fun x H1 => r x H1 Q) : tUn r ta σ H Q := q
theorem w_U {g : Int → V} (q : Q (g i) H) : rU g (.int i) H Q := ⟨i, rfl, q⟩
theorem w_test (q : ta σ H fun x H' => ∃ k, x = .bl k ∧ TQ k H') : tTest ta σ H TQ := q
theorem w_tB (q : ta σ H fun x H' => ∃ k, x = .bl k ∧ TQ k H') : tB ta σ H TQ := q
theorem w_bl (q : TQ b H) : ∃ k, V.bl b = .bl k ∧ TQ k H := ⟨b, rfl, q⟩
theorem w_I0 {g : Int → Int → V} (q : Q (g i j) H) : rI0 g (.int i) (.int j) H Q := ⟨i, j, rfl, rfl, q⟩
theorem w_I {C : Int → Int → Prop} {g : Int → Int → V} (hc : C i j) (q : Q (g i j) H) : rI C g (.int i) (.int j) H Q := ⟨i, j, rfl, rfl, hc, q⟩
theorem w_eqI (q : Q (.bl (decide (i = j))) H) : rEq (.int i) (.int j) H Q := ⟨rfl, by
  have e : decide (V.int i = V.int j) = decide (i = j) := by
    by_cases h : i = j
    · rw [h, decide_eq_true rfl, decide_eq_true rfl]
    · rw [decide_eq_false h, decide_eq_false (fun z => h (V.int.inj z))]
  rw [e]
  exact q⟩
theorem w_neI (q : Q (.bl (!decide (i = j))) H) : rNe (.int i) (.int j) H Q := ⟨rfl, by
  have e : decide (V.int i = V.int j) = decide (i = j) := by
    by_cases h : i = j
    · rw [h, decide_eq_true rfl, decide_eq_true rfl]
    · rw [decide_eq_false h, decide_eq_false (fun z => h (V.int.inj z))]
  rw [e]
  exact q⟩
theorem w_cons (q : ta σ H fun x H1 => tr σ H1 fun xs H2 => AQ (x :: xs) H2) : tCons ta tr σ H AQ := q
theorem w_nil (q : AQ [] H) : tNil σ H AQ := q
theorem w_seqA (q : te σ H fun x H1 => g x σ H1 (s2 D)) : tSeq (tAsg te g) s2 D σ H := q
theorem w_seqD (q : te σ H fun _ H1 => s2 D σ H1) : tSeq (tDrop te) s2 D σ H := q
theorem w_seqP {m : Nat} (q : tr σ H fun vs H1 => ∃ v w, vs = [v, w] ∧ s2 D ((σ.set n (some v)).set m (some w)) H1) : tSeq (tPar n m tr) s2 D σ H := q
theorem w_next (q : D.nx σ H) : tNext D σ H := q
theorem w_asg (q : te σ H fun x H1 => g x σ H1 D.nx) : tAsg te g D σ H := q
theorem w_gn (q : GQ (σ.set n (some v)) H) : gName n v σ H GQ := q
theorem w_gsub {s : TSet} (q : to σ H fun o H1 => ti σ H1 fun i H2 => s o i v H2 fun H3 => GQ σ H3) : gSub to ti s v σ H GQ := q
theorem w_ret (q : te σ H D.rt) : tRet te D σ H := q
theorem w_drop (q : te σ H fun _ H1 => D.nx σ H1) : tDrop te D σ H := q
theorem w_ifs (q : c σ H fun b H1 => if b = true then s1 D σ H1 else s2 D σ H1) : tIfS c s1 s2 D σ H := q
theorem w_if (q : c σ H fun b H1 => if b = true then ta σ H1 Q else tb σ H1 Q) : tIf c ta tb σ H Q := q
theorem w_and (q : t σ H fun c H1 => if c = true then u σ H1 TQ else TQ false H1) : tAnd t u σ H TQ := q
theorem w_or (q : t σ H fun c H1 => if c = true then TQ true H1 else u σ H1 TQ) : tOr t u σ H TQ := q
theorem w_not (q : t σ H fun c H1 => TQ (!c) H1) : tNot t σ H TQ := q
theorem w_andV (q : ta σ H fun x H1 => ∃ c, x = .bl c ∧ if c = true then tb σ H1 Q else Q (.bl false) H1) : tAndV ta tb σ H Q := q
theorem w_orV (q : ta σ H fun x H1 => ∃ c, x = .bl c ∧ if c = true then Q (.bl true) H1 else tb σ H1 Q) : tOrV ta tb σ H Q := q
theorem w_notV (q : ta σ H fun x H1 => ∃ c, x = .bl c ∧ Q (.bl (!c)) H1) : tNotV ta σ H Q := q
theorem w_ixL (h : SqL K H p xs) (ha : atI xs i = some v) (q : Q v H) : rIxL K (.ref p) (.int i) H Q := ⟨p, xs, i, v, rfl, rfl, h, ha, q⟩
theorem w_cb {r : List V → Hp → VK → Prop} (q : tr σ H fun vs H1 => r vs H1 Q) : tCB r tr σ H Q := q
theorem w_intB (q : Q (.int (if b then 1 else 0)) H) : cInt [.bl b] H Q := .inr ⟨b, rfl, q⟩
theorem w_intI (q : Q (.int i) H) : cInt [.int i] H Q := .inl ⟨i, rfl, q⟩
theorem w_abs (q : Q (.int (if i < 0 then -i else i)) H) : cAbs [.int i] H Q := ⟨i, rfl, q⟩
theorem w_call {sp : Sp} {dvs : List V} {E : XK} (q : tr σ H fun vs H1 => sp (vs ++ dvs) H1 Q E) : tCall sp dvs E tr σ H Q := q
theorem w_lst (q : tr σ H fun xs H1 => xs.length ≤ sizeLine ∧ ∀ p, H1 p = none → Q (.ref p) (upd H1 p (.lst xs))) : tLst tr σ H Q := q
theorem w_tup (q : tr σ H fun xs H1 => xs.length ≤ sizeLine ∧ ∀ p, H1 p = none → Q (.ref p) (upd H1 p (.tup xs))) : tTup tr σ H Q := q
theorem w_par {m : Nat} (q : tr σ H fun vs H1 => ∃ v w, vs = [v, w] ∧ D.nx ((σ.set n (some v)).set m (some w)) H1) : tPar n m tr D σ H := q
theorem w_sl {r : V → Option Int → Option Int → Hp → VK → Prop} {tl th : TO} (q : te σ H fun x H1 => tl σ H1 fun l H2 => th σ H2 fun u H3 => r x l u H3 Q) : tSl r te tl th σ H Q := q
theorem w_noPart {OQ : Option Int → Hp → Prop} (q : OQ none H) : tNoPart σ H OQ := q
theorem w_part {OQ : Option Int → Hp → Prop} (q : te σ H fun x H1 => ∃ i, x = .int i ∧ OQ (some i) H1) : tPart te σ H OQ := q
theorem w_ex1 {P : Int → Prop} (q : P i) : ∃ j, V.int i = .int j ∧ P j := ⟨i, rfl, q⟩
theorem w_exb {P : Bool → Prop} (q : P b) : ∃ j, V.bl b = .bl j ∧ P j := ⟨b, rfl, q⟩
theorem w_nx {f : L2.St → Hp → Prop} {r : VK} {k c : L2.St → Hp → Prop} {σ : L2.St} {H : Hp} (q : f σ H) : Ends.nx ⟨f, r, k, c⟩ σ H := q
theorem w_rt {f : L2.St → Hp → Prop} {r : VK} {k c : L2.St → Hp → Prop} {v : V} {H : Hp} (q : r v H) : Ends.rt ⟨f, r, k, c⟩ v H := q
theorem w_yes {TQ : Bool → Hp → Prop} {σ : L2.St} {H : Hp} (q : TQ true H) : tYes σ H TQ := q
theorem iteNT {A B : Prop} (h : B) : if (!true) = true then A else B := iteF h
theorem iteNF {A B : Prop} (h : A) : if (!false) = true then A else B := iteT h
theorem iteRf {α : Type} [DecidableEq α] {z : α} {A B : Prop} (h : A) : if decide (z = z) = true then A else B := by
  rw [decide_eq_true rfl]
  exact iteT h
theorem iteNRf {α : Type} [DecidableEq α] {z : α} {A B : Prop} (h : B) : if (!decide (z = z)) = true then A else B := by
  rw [decide_eq_true rfl]
  exact iteF h
end
theorem pow_c {i j : Int} (h : 0 ≤ j) (h2 : j ≤ 1000000) (h3 : -18446744073709551616 < i) (h4 : i < 18446744073709551616) : CPow i j := ⟨h, h2, by
  have e : (2 : Nat) ^ 64 = 18446744073709551616 := by decide
  omega⟩
theorem mul_l {i j : Int} (h3 : -18446744073709551616 < i) (h4 : i < 18446744073709551616) : CMul i j := .inl ⟨by
  have e : (2 : Int) ^ 64 = 18446744073709551616 := by decide
  omega, by
  have e : (2 : Int) ^ 64 = 18446744073709551616 := by decide
  omega⟩
theorem mul_r {i j : Int} (h3 : -18446744073709551616 < j) (h4 : j < 18446744073709551616) : CMul i j := .inr ⟨by
  have e : (2 : Int) ^ 64 = 18446744073709551616 := by decide
  omega, by
  have e : (2 : Int) ^ 64 = 18446744073709551616 := by decide
  omega⟩
/-- all that H tracked, but the object at d, stands as it was -/
def But (d : Addr) (H H' : Hp) : Prop := ∀ b o, b ≠ d → H b = some o → H' b = some o
theorem But.free {d : Addr} {H H' : Hp} (e : But d H H') {l : Addr} (n : l ≠ d) (h : H' l = none) : H l = none := by
  cases q : H l with
  | none => rfl
  | some o =>
    rw [e l o n q] at h
    cases h
theorem sq_lst {K : PySem.W.Frag} {H : Hp} {a : Addr} {xs : List V} (h : H a = some (.lst xs)) : SqL K H a xs := .inl (.inl h)
end Rv
namespace Rv
open PySem PySem.Spec PyProof.Rows L2
end Rv
namespace Rv
open PySem PySem.Spec PyProof.Rows L2
end Rv
namespace Rv
open PySem PySem.Spec PyProof.Rows L2
end Rv
namespace Rv
open PySem PySem.Spec PyProof.Rows L2
/-! what the top leaves behind, beyond defs and methods: properties, an own ==, getters -/
def prA (K : PySem.W.Frag) (x f : Str) : Addr := He.ma K (He.ga K x) f
def gtA (K : PySem.W.Frag) (x f : Str) : Addr := match PySem.W.recIn K (prA K x f) "property" with
  | some (.ref g :: _) => g
  | _ => 0
def prB (K : PySem.W.Frag) (x f : Str) : Bool := He.eqO (PySem.W.findIn K (.ref (He.ga K x)) f) (some (some (.ref (prA K x f)))) &&
  (He.eqO (PySem.W.specialIn K (.ref (prA K x f)) "__get__") (some (some (.builtin "property.__get__"))) && (decide (PySem.W.takesIn K (.ref (prA K x f)) = some true) &&
    (match PySem.W.recIn K (prA K x f) "property" with
      | some (.ref _ :: _) => true
      | _ => false)))
/-- the class x has no __class__ of its own -/
def clB (K : PySem.W.Frag) (x : Str) : Bool := He.eqO (PySem.W.findIn K (.ref (He.ga K x)) "__class__") (some (some (.builtin "object.__class__"))) &&
  (He.eqO (PySem.W.specialIn K (.builtin "object.__class__") "__get__") (some (some (.builtin "getset_descriptor.__get__"))) && (decide (PySem.W.takesIn K (.builtin "object.__class__") = some true) && decide (PySem.W.mroIn K (He.ga K x) (.type "object") = some true)))
/-- the text of a function at an address -/
def txt (K : PySem.W.Frag) (a : Addr) : He.FnW := match K.lookup a with
  | some o => (match o.data with
    | .func z => some (z.name, z.qualname, z.params, z.body, z.scope, z.globals, z.closure, z.builtins)
    | _ => none)
  | none => none
def isNn : Value → Bool
  | .none => true
  | _ => false
def txB (K : PySem.W.Frag) (a : Addr) (q : Str) : Bool := PySem.W.keepIn K (.ref a) && (match K.lookup a with
  | some o => (match o.data with
    | .func z => PySem.W.codeIn K z.code q && isNn z.defaults
    | _ => false)
  | none => false)
/-- a getter: its class, the property's name, its function's text -/
structure Gt where
  cl : Str
  pr : Str
  qual : Str
  params : Arguments
  body : List Stmt
  scope : Scope
def Gt.val (g : Gt) : He.FnW := some (g.pr, g.qual, g.params, .stmts g.body, g.scope, mainGlobals, [], builtinsNs)
/-! the hook: facts, defs, getters, one more test -/
abbrev AlR : Type := He.AlD × (Bool × List He.FnW)
def obsR (fa : List He.Fa) (fn : List He.DefD) (gs : List Gt) (ex : PySem.W.Frag → Bool) (K : PySem.W.Frag) : AlR :=
  (He.obsD fa fn K, (ex K && gs.all fun g => txB K (gtA K g.cl g.pr) g.qual, gs.map fun g => txt K (gtA K g.cl g.pr)))
def valR (fn : List He.DefD) (gs : List Gt) : AlR := (He.valD fn, (true, gs.map Gt.val))
def SaysR (fa : List He.Fa) (fn : List He.DefD) (gs : List Gt) (ex : PySem.W.Frag → Bool) (K : PySem.W.Frag) : Prop := obsR fa fn gs ex K = valR fn gs
end Rv
namespace Rv
open PySem PySem.Spec PyProof.Rows L2
/-! the hook with the addresses said -/
def obsRL (as : List Addr) (fa : List He.Fa) (fn : List He.DefD) (gs : List Gt) (ex : PySem.W.Frag → Bool) (g : Addr → Option Obj) : AlR := obsR fa fn gs ex (He.frG g as)
def hookL (as : List Addr) (fa : List He.Fa) (fn : List He.DefD) (gs : List Gt) (ex : PySem.W.Frag → Bool) : PySem.W.Hook where
  α := AlR
  obs := fun s => obsRL as fa fn gs ex s.heap.get?
  val := fun _ => valR fn gs
  says := fun _ h => ∃ K : PySem.W.Frag, K.In h ∧ SaysR fa fn gs ex K
  of := fun _ _ e => ⟨_, He.frG_in, e⟩
  keeps := fun _ _ _ ⟨K, hK, c⟩ k => ⟨K, PySem.W.Frag.In.keeps hK k, c⟩
theorem obsRL_eq {as : List Addr} {fa : List He.Fa} {fn : List He.DefD} {gs : List Gt} {ex : PySem.W.Frag → Bool} {g : Addr → Option Obj} {s : Shared} (h : ∀ a, g a = s.heap.get? a) : obsRL as fa fn gs ex g = (hookL as fa fn gs ex).obs s := by
  have e : g = s.heap.get? := funext h
  rw [e] <;> rfl
end Rv
namespace Rv
open PySem PySem.Spec PyProof.Rows L2
/-! ### the law's draws: a list of the cells, a place, a number in use, a seed -/
theorem divw {i j : Int} (h : 0 < j) (hb : j < 2 ^ 200) : CDivW i j := by
  refine wide_div (b := 201) h ?_ (by decide) (by decide)
  have e : (2 : Int) ^ 200 = ((2 ^ 200 : Nat) : Int) := rfl
  have e2 : (2 ^ 200 : Nat) < 2 ^ 201 := by decide
  omega
local macro_rules | `(tactic| walk_at "rv st") => `(tactic| first
  | with_reducible refine iteT ?_ | with_reducible refine iteF ?_ | with_reducible refine w_nx ?_ | with_reducible refine w_yes ?_ | with_reducible refine w_rt ?_ | with_reducible refine iteNT ?_ | with_reducible refine iteNF ?_ | with_reducible refine iteNRf ?_ | with_reducible refine iteRf ?_ | with_reducible refine w_seqA ?_ | with_reducible refine w_seqD ?_ | with_reducible refine w_seqP ?_ | with_reducible refine w_asg ?_ | with_reducible refine w_ret ?_ | with_reducible refine w_drop ?_ | with_reducible refine w_ifs ?_ | with_reducible refine w_next ?_ | with_reducible refine w_par ?_
  | with_reducible refine w_op ?_ | with_reducible refine w_un ?_ | ((with_reducible show tVar _ _ _ _); refine' w_var ?hv ?_; (case hv => exact rfl)) | with_reducible refine w_c ?_ | with_reducible refine w_test ?_ | with_reducible refine w_tB ?_
  | with_reducible refine w_bl ?_ | with_reducible refine w_I0 ?_ | with_reducible refine w_U ?_ | with_reducible refine w_eqI ?_ | with_reducible refine w_neI ?_
  | with_reducible refine w_cons ?_ | with_reducible refine w_nil ?_ | with_reducible refine w_gn ?_ | with_reducible refine w_gsub ?_ | with_reducible refine w_and ?_ | with_reducible refine w_or ?_ | with_reducible refine w_not ?_
  | with_reducible refine w_andV ?_ | with_reducible refine w_orV ?_ | with_reducible refine w_notV ?_ | with_reducible refine w_if ?_ | with_reducible refine w_cb ?_ | with_reducible refine w_call ?_ | with_reducible refine w_lst ?_ | with_reducible refine w_tup ?_
  | with_reducible refine w_sl ?_ | with_reducible refine w_noPart ?_ | with_reducible refine w_part ?_ | with_reducible refine w_ex1 ?_ | with_reducible refine w_exb ?_ | with_reducible refine w_intB ?_ | with_reducible refine w_intI ?_ | with_reducible refine w_abs ?_)
local macro_rules | `(tactic| walk_at "rv ix") => `(tactic| ((with_reducible show rIxL _ _ _ _ _); refine' w_ixL (sq_lst ?ha) ?hb ?_; (case ha => first | exact upd_same | assumption); (case hb => first | exact rfl | assumption)))
local macro_rules | `(tactic| walk_at "rv ar") => `(tactic| first
  | (refine' w_I ?hc ?_; (case hc => first | (show (0 : Int) < _; first | assumption | decide | omega) | exact pow_c (by decide) (by decide) (by first | decide | omega) (by first | decide | omega) | exact mul_r (by first | decide | omega) (by first | decide | omega) | exact mul_l (by first | decide | omega) (by first | decide | omega) | exact divw (by first | assumption | decide | omega) (by first | assumption | decide | omega))))
local macro_rules | `(tactic| walk_at "rv go") => `(tactic| repeat first | walk_at "rv st" | walk_at "rv ix" | ((with_reducible show rI _ _ _ _ _ _); walk_at "rv ar"))
end Rv
/-! enumerate of a tuple, and of a list or a tuple. -/
namespace PySem
open Sem (wp)
open AutoSeq1 (wpAny_loadPart')
end PySem
namespace Rv
open PySem PySem.Spec PyProof.Rows L2
end Rv
namespace Rv
open PySem PySem.Spec PyProof.Rows L2
/-! values: is it an integer -/
local macro_rules | `(tactic| walk_at "rv st") => `(tactic| first
  | with_reducible refine iteT ?_ | with_reducible refine iteF ?_ | with_reducible refine w_nx ?_ | with_reducible refine w_yes ?_ | with_reducible refine w_rt ?_ | with_reducible refine iteNT ?_ | with_reducible refine iteNF ?_ | with_reducible refine iteNRf ?_ | with_reducible refine iteRf ?_ | with_reducible refine w_seqA ?_ | with_reducible refine w_seqD ?_ | with_reducible refine w_seqP ?_ | with_reducible refine w_asg ?_ | with_reducible refine w_ret ?_ | with_reducible refine w_drop ?_ | with_reducible refine w_ifs ?_ | with_reducible refine w_next ?_ | with_reducible refine w_par ?_
  | with_reducible refine w_op ?_ | with_reducible refine w_un ?_ | ((with_reducible show tVar _ _ _ _); refine' w_var ?hv ?_; (case hv => exact rfl)) | with_reducible refine w_c ?_ | with_reducible refine w_test ?_ | with_reducible refine w_tB ?_
  | with_reducible refine w_bl ?_ | with_reducible refine w_I0 ?_ | with_reducible refine w_U ?_ | with_reducible refine w_eqI ?_ | with_reducible refine w_neI ?_
  | with_reducible refine w_cons ?_ | with_reducible refine w_nil ?_ | with_reducible refine w_gn ?_ | with_reducible refine w_gsub ?_ | with_reducible refine w_and ?_ | with_reducible refine w_or ?_ | with_reducible refine w_not ?_
  | with_reducible refine w_andV ?_ | with_reducible refine w_orV ?_ | with_reducible refine w_notV ?_ | with_reducible refine w_if ?_ | with_reducible refine w_cb ?_ | with_reducible refine w_call ?_ | with_reducible refine w_lst ?_ | with_reducible refine w_tup ?_
  | with_reducible refine w_sl ?_ | with_reducible refine w_noPart ?_ | with_reducible refine w_part ?_ | with_reducible refine w_ex1 ?_ | with_reducible refine w_exb ?_ | with_reducible refine w_intB ?_ | with_reducible refine w_intI ?_ | with_reducible refine w_abs ?_)
local macro_rules | `(tactic| walk_at "rv ix") => `(tactic| ((with_reducible show rIxL _ _ _ _ _); refine' w_ixL (sq_lst ?ha) ?hb ?_; (case ha => first | exact upd_same | assumption); (case hb => first | exact rfl | assumption)))
local macro_rules | `(tactic| walk_at "rv ar") => `(tactic| first
  | (refine' w_I ?hc ?_; (case hc => first | (show (0 : Int) < _; first | assumption | decide | omega) | exact pow_c (by decide) (by decide) (by first | decide | omega) (by first | decide | omega) | exact mul_r (by first | decide | omega) (by first | decide | omega) | exact mul_l (by first | decide | omega) (by first | decide | omega) | exact divw (by first | assumption | decide | omega) (by first | assumption | decide | omega))))
local macro_rules | `(tactic| walk_at "rv go") => `(tactic| repeat first | walk_at "rv st" | walk_at "rv ix" | ((with_reducible show rI _ _ _ _ _ _); walk_at "rv ar"))
end Rv
/-! Operators, comparisons and len of instances of a class with its own defs for them. -/
namespace Rv
open PySem PySem.Spec PyProof.Rows L2
end Rv
namespace Rv
open PySem PySem.Spec PyProof.Rows L2
/-! fractions in the heap -/
local macro_rules | `(tactic| walk_at "rv st") => `(tactic| first
  | with_reducible refine iteT ?_ | with_reducible refine iteF ?_ | with_reducible refine w_nx ?_ | with_reducible refine w_yes ?_ | with_reducible refine w_rt ?_ | with_reducible refine iteNT ?_ | with_reducible refine iteNF ?_ | with_reducible refine iteNRf ?_ | with_reducible refine iteRf ?_ | with_reducible refine w_seqA ?_ | with_reducible refine w_seqD ?_ | with_reducible refine w_seqP ?_ | with_reducible refine w_asg ?_ | with_reducible refine w_ret ?_ | with_reducible refine w_drop ?_ | with_reducible refine w_ifs ?_ | with_reducible refine w_next ?_ | with_reducible refine w_par ?_
  | with_reducible refine w_op ?_ | with_reducible refine w_un ?_ | ((with_reducible show tVar _ _ _ _); refine' w_var ?hv ?_; (case hv => exact rfl)) | with_reducible refine w_c ?_ | with_reducible refine w_test ?_ | with_reducible refine w_tB ?_
  | with_reducible refine w_bl ?_ | with_reducible refine w_I0 ?_ | with_reducible refine w_U ?_ | with_reducible refine w_eqI ?_ | with_reducible refine w_neI ?_
  | with_reducible refine w_cons ?_ | with_reducible refine w_nil ?_ | with_reducible refine w_gn ?_ | with_reducible refine w_gsub ?_ | with_reducible refine w_and ?_ | with_reducible refine w_or ?_ | with_reducible refine w_not ?_
  | with_reducible refine w_andV ?_ | with_reducible refine w_orV ?_ | with_reducible refine w_notV ?_ | with_reducible refine w_if ?_ | with_reducible refine w_cb ?_ | with_reducible refine w_call ?_ | with_reducible refine w_lst ?_ | with_reducible refine w_tup ?_
  | with_reducible refine w_sl ?_ | with_reducible refine w_noPart ?_ | with_reducible refine w_part ?_ | with_reducible refine w_ex1 ?_ | with_reducible refine w_exb ?_ | with_reducible refine w_intB ?_ | with_reducible refine w_intI ?_ | with_reducible refine w_abs ?_)
local macro_rules | `(tactic| walk_at "rv ix") => `(tactic| ((with_reducible show rIxL _ _ _ _ _); refine' w_ixL (sq_lst ?ha) ?hb ?_; (case ha => first | exact upd_same | assumption); (case hb => first | exact rfl | assumption)))
local macro_rules | `(tactic| walk_at "rv ar") => `(tactic| first
  | (refine' w_I ?hc ?_; (case hc => first | (show (0 : Int) < _; first | assumption | decide | omega) | exact pow_c (by decide) (by decide) (by first | decide | omega) (by first | decide | omega) | exact mul_r (by first | decide | omega) (by first | decide | omega) | exact mul_l (by first | decide | omega) (by first | decide | omega) | exact divw (by first | assumption | decide | omega) (by first | assumption | decide | omega))))
local macro_rules | `(tactic| walk_at "rv go") => `(tactic| repeat first | walk_at "rv st" | walk_at "rv ix" | ((with_reducible show rI _ _ _ _ _ _); walk_at "rv ar"))
end Rv
/-! The head's tests of the classes Profile and Ratio. -/
namespace Rv
open PySem PySem.Spec PyProof.Rows L2
def kiB (K : PySem.W.Frag) (x : Str) : Bool := decide (PySem.W.kitOne K (.type "int") (.ref (He.ga K x)) = some false)
def opcB (K : PySem.W.Frag) (x : Str) : Bool := PySem.W.notFirst K (He.ga K x) (.type "int") && (PySem.W.selfFirst K (He.ga K x) && decide (PySem.W.subIn K (.type "int") (.ref (He.ga K x)) = some false))
def refO : Option (Option Value) → Bool
  | some none => true
  | some (some (.ref _)) => true
  | _ => false
def opnB (K : PySem.W.Frag) (x : Str) (nm : String) : Bool := refO (PySem.W.findIn K (.ref (He.ga K x)) (PySem.dunderR nm)) && ((PySem.W.findIn K (.type "int") (PySem.dunder nm)).isSome && (PySem.W.findIn K (.type "int") (PySem.dunderR nm)).isSome)
end Rv
namespace Rv
open PySem PySem.Spec PyProof.Rows L2
local macro_rules | `(tactic| walk_at "rv st") => `(tactic| first
  | with_reducible refine iteT ?_ | with_reducible refine iteF ?_ | with_reducible refine w_nx ?_ | with_reducible refine w_yes ?_ | with_reducible refine w_rt ?_ | with_reducible refine iteNT ?_ | with_reducible refine iteNF ?_ | with_reducible refine iteNRf ?_ | with_reducible refine iteRf ?_ | with_reducible refine w_seqA ?_ | with_reducible refine w_seqD ?_ | with_reducible refine w_seqP ?_ | with_reducible refine w_asg ?_ | with_reducible refine w_ret ?_ | with_reducible refine w_drop ?_ | with_reducible refine w_ifs ?_ | with_reducible refine w_next ?_ | with_reducible refine w_par ?_
  | with_reducible refine w_op ?_ | with_reducible refine w_un ?_ | ((with_reducible show tVar _ _ _ _); refine' w_var ?hv ?_; (case hv => exact rfl)) | with_reducible refine w_c ?_ | with_reducible refine w_test ?_ | with_reducible refine w_tB ?_
  | with_reducible refine w_bl ?_ | with_reducible refine w_I0 ?_ | with_reducible refine w_U ?_ | with_reducible refine w_eqI ?_ | with_reducible refine w_neI ?_
  | with_reducible refine w_cons ?_ | with_reducible refine w_nil ?_ | with_reducible refine w_gn ?_ | with_reducible refine w_gsub ?_ | with_reducible refine w_and ?_ | with_reducible refine w_or ?_ | with_reducible refine w_not ?_
  | with_reducible refine w_andV ?_ | with_reducible refine w_orV ?_ | with_reducible refine w_notV ?_ | with_reducible refine w_if ?_ | with_reducible refine w_cb ?_ | with_reducible refine w_call ?_ | with_reducible refine w_lst ?_ | with_reducible refine w_tup ?_
  | with_reducible refine w_sl ?_ | with_reducible refine w_noPart ?_ | with_reducible refine w_part ?_ | with_reducible refine w_ex1 ?_ | with_reducible refine w_exb ?_ | with_reducible refine w_intB ?_ | with_reducible refine w_intI ?_ | with_reducible refine w_abs ?_)
local macro_rules | `(tactic| walk_at "rv ix") => `(tactic| ((with_reducible show rIxL _ _ _ _ _); refine' w_ixL (sq_lst ?ha) ?hb ?_; (case ha => first | exact upd_same | assumption); (case hb => first | exact rfl | assumption)))
local macro_rules | `(tactic| walk_at "rv ar") => `(tactic| first
  | (refine' w_I ?hc ?_; (case hc => first | (show (0 : Int) < _; first | assumption | decide | omega) | exact pow_c (by decide) (by decide) (by first | decide | omega) (by first | decide | omega) | exact mul_r (by first | decide | omega) (by first | decide | omega) | exact mul_l (by first | decide | omega) (by first | decide | omega) | exact divw (by first | assumption | decide | omega) (by first | assumption | decide | omega))))
local macro_rules | `(tactic| walk_at "rv go") => `(tactic| repeat first | walk_at "rv st" | walk_at "rv ix" | ((with_reducible show rI _ _ _ _ _ _); walk_at "rv ar"))
end Rv
namespace Rv
open PySem PySem.Spec PyProof.Rows L2
local macro_rules | `(tactic| walk_at "rv st") => `(tactic| first
  | with_reducible refine iteT ?_ | with_reducible refine iteF ?_ | with_reducible refine w_nx ?_ | with_reducible refine w_yes ?_ | with_reducible refine w_rt ?_ | with_reducible refine iteNT ?_ | with_reducible refine iteNF ?_ | with_reducible refine iteNRf ?_ | with_reducible refine iteRf ?_ | with_reducible refine w_seqA ?_ | with_reducible refine w_seqD ?_ | with_reducible refine w_seqP ?_ | with_reducible refine w_asg ?_ | with_reducible refine w_ret ?_ | with_reducible refine w_drop ?_ | with_reducible refine w_ifs ?_ | with_reducible refine w_next ?_ | with_reducible refine w_par ?_
  | with_reducible refine w_op ?_ | with_reducible refine w_un ?_ | ((with_reducible show tVar _ _ _ _); refine' w_var ?hv ?_; (case hv => exact rfl)) | with_reducible refine w_c ?_ | with_reducible refine w_test ?_ | with_reducible refine w_tB ?_
  | with_reducible refine w_bl ?_ | with_reducible refine w_I0 ?_ | with_reducible refine w_U ?_ | with_reducible refine w_eqI ?_ | with_reducible refine w_neI ?_
  | with_reducible refine w_cons ?_ | with_reducible refine w_nil ?_ | with_reducible refine w_gn ?_ | with_reducible refine w_gsub ?_ | with_reducible refine w_and ?_ | with_reducible refine w_or ?_ | with_reducible refine w_not ?_
  | with_reducible refine w_andV ?_ | with_reducible refine w_orV ?_ | with_reducible refine w_notV ?_ | with_reducible refine w_if ?_ | with_reducible refine w_cb ?_ | with_reducible refine w_call ?_ | with_reducible refine w_lst ?_ | with_reducible refine w_tup ?_
  | with_reducible refine w_sl ?_ | with_reducible refine w_noPart ?_ | with_reducible refine w_part ?_ | with_reducible refine w_ex1 ?_ | with_reducible refine w_exb ?_ | with_reducible refine w_intB ?_ | with_reducible refine w_intI ?_ | with_reducible refine w_abs ?_)
local macro_rules | `(tactic| walk_at "rv ix") => `(tactic| ((with_reducible show rIxL _ _ _ _ _); refine' w_ixL (sq_lst ?ha) ?hb ?_; (case ha => first | exact upd_same | assumption); (case hb => first | exact rfl | assumption)))
local macro_rules | `(tactic| walk_at "rv ar") => `(tactic| first
  | (refine' w_I ?hc ?_; (case hc => first | (show (0 : Int) < _; first | assumption | decide | omega) | exact pow_c (by decide) (by decide) (by first | decide | omega) (by first | decide | omega) | exact mul_r (by first | decide | omega) (by first | decide | omega) | exact mul_l (by first | decide | omega) (by first | decide | omega) | exact divw (by first | assumption | decide | omega) (by first | assumption | decide | omega))))
local macro_rules | `(tactic| walk_at "rv go") => `(tactic| repeat first | walk_at "rv st" | walk_at "rv ix" | ((with_reducible show rI _ _ _ _ _ _); walk_at "rv ar"))
end Rv
/-! Calls by keywords alone. -/
namespace Rv
open PySem PySem.Spec PyProof.Rows L2
end Rv
/-! Defs that are run where no guard is under way: what repr of lists and tuples asks. -/
namespace Rv
open PySem PySem.Spec PyProof.Rows L2
end Rv
/-! Texts of lists of ints, and of own instances whose def makes a text. -/
namespace Rv
open PySem PySem.Spec PyProof.Rows L2
end Rv
/-! t[::-1] of a tuple. -/
namespace Rv
open PySem PySem.Spec PyProof.Rows L2
end Rv
/-! Comparisons of an int with an instance of an own class: the int declines, the class's own def answers; own comparisons with values of any kind. -/
namespace Rv
open PySem PySem.Spec PyProof.Rows L2
end Rv
/-! Own comparisons with values of any kind, in both orders. -/
namespace Rv
open PySem PySem.Spec PyProof.Rows L2
/-! lowest terms -/
end Rv
/-! != of instances with an own == and no own !=; + of two own instances. -/
namespace PySem.W
open PySem PySem.Spec PyProof.Rows
end PySem.W
namespace Rv
open PySem PySem.Spec PyProof.Rows L2
end Rv
/-! Base.__init__(self, ..) where Base is an own class under ValueError that has no __init__ of its own. -/
namespace Rv
open PySem PySem.Spec PyProof.Rows L2
end Rv
/-! Own exceptions under any base of the standard ones: fields set in __init__. -/
namespace Rv
open PySem PySem.W PySem.Calls PyProof.Rows PySem.HandSPX Builtin Builtin.ObjectAttr
end Rv
namespace Rv
open PySem PySem.Spec PyProof.Rows L2
/-! readings and rules -/
end Rv
/-! A test of the written part: is the class at C such an exception class. -/
namespace Rv
open PySem PySem.Spec PyProof.Rows L2
/-- own classes, then the standard class's mro -/
def tlB (bmB : List Value) : List Value → Bool
  | .ref _ :: r => tlB bmB r
  | l => decide (l = bmB)
def cxB (K : PySem.W.Frag) (C : Addr) (newId : String) (bmB : List Value) : Bool := match K.lookup C with
  | some ⟨.type m, _, .cls z, sl⟩ => decide (m = "type") && (match z.mro, sl.toList with
    | .ref D :: r, [_, _, _, _, some (.builtin n), _] => decide (D = C) && (decide (n = newId) && (!z.hasDel && (z.hasDict && tlB bmB r)))
    | _, _ => false)
  | _ => false
/-- all of it by one test -/
def oxB (K : PySem.W.Frag) (x : Str) (newId : String) (bmB : List Value) : Bool := cxB K (He.ga K x) newId bmB && (He.eqO (PySem.W.findIn K (.ref (He.ga K x)) "__setattr__") (some (some (.builtin "object.__setattr__"))) &&
  (decide (PySem.W.subIn K (.ref (He.ga K x)) (.type "BaseException") = some true) && (decide (PySem.W.typeIn K (.ref (He.ga K x)) = some (.type "type")) && PySem.W.keepIn K (.ref (He.ga K x)))))
/-- an own Base without an __init__ -/
def bgB (K : PySem.W.Frag) (x : Str) (i : String) : Bool := PySem.W.readsIn K (He.ga K x) (.type "type") && (He.eqO (PySem.W.specialIn K (.ref (He.ga K x)) "__getattribute__") (some (some (.builtin "type.__getattribute__"))) &&
  (PySem.W.handedIn (.builtin i) && (match PySem.W.findCls K (.ref (He.ga K x)) (.type "type") "__init__" with
    | some (.val (.builtin n)) => decide (n = i)
    | _ => false)))
end Rv
namespace Rv
open PySem PySem.Spec PyProof.Rows L2
/-! exceptions of own classes: raised in defs, caught in the law -/
/-! .. at the state in which the call stands -/
abbrev bm_ValueError : List Value := [.type "ValueError", .type "Exception", .type "BaseException", .type "object"]
def ecB (K : PySem.W.Frag) (x : Str) : Bool := He.eqO (PySem.W.findIn K (.ref (He.ga K x)) "__getattribute__") (some (some (.builtin "BaseException.__getattribute__"))) && (He.eqO (PySem.W.findIn K (.ref (He.ga K x)) "__getattr__") (some none) &&
  (decide (PySem.W.subIn K (.ref (He.ga K x)) (.type "BaseException") = some true) && (PySem.W.hasDictIn K (He.ga K x) && (He.eqO (PySem.W.findIn K (.ref (He.ga K x)) "__class__") (some (some (.builtin "object.__class__"))) &&
  (He.eqO (PySem.W.specialIn K (.builtin "object.__class__") "__get__") (some (some (.builtin "getset_descriptor.__get__"))) && (decide (PySem.W.takesIn K (.builtin "object.__class__") = some true) && decide (PySem.W.mroIn K (He.ga K x) (.type "object") = some true)))))))
end Rv
namespace Rv
open PySem PySem.Spec PyProof.Rows L2
end Rv
/-! try with several clauses 'except C as n' of one name n. -/
namespace Rv
open PySem PySem.Spec PyProof.Rows L2
end Rv
/-! Own defs that are called while an exception is handled (they raise nothing themselves), and repr there. -/
namespace Rv
open PySem PySem.Spec PyProof.Rows L2 L2H
end Rv
namespace Rv
open PySem PySem.Spec PyProof.Rows L2
def odB (K : PySem.W.Frag) (x : Str) : Bool := ["NoneType", "bool", "str", "list", "tuple", "dict"].all fun T => decide (PySem.W.kitOne K (.type T) (.ref (He.ga K x)) = some false) && PySem.W.notFirst K (He.ga K x) (.type T)
local macro_rules | `(tactic| walk_at "rv st") => `(tactic| first
  | with_reducible refine iteT ?_ | with_reducible refine iteF ?_ | with_reducible refine w_nx ?_ | with_reducible refine w_yes ?_ | with_reducible refine w_rt ?_ | with_reducible refine iteNT ?_ | with_reducible refine iteNF ?_ | with_reducible refine iteNRf ?_ | with_reducible refine iteRf ?_ | with_reducible refine w_seqA ?_ | with_reducible refine w_seqD ?_ | with_reducible refine w_seqP ?_ | with_reducible refine w_asg ?_ | with_reducible refine w_ret ?_ | with_reducible refine w_drop ?_ | with_reducible refine w_ifs ?_ | with_reducible refine w_next ?_ | with_reducible refine w_par ?_
  | with_reducible refine w_op ?_ | with_reducible refine w_un ?_ | ((with_reducible show tVar _ _ _ _); refine' w_var ?hv ?_; (case hv => exact rfl)) | with_reducible refine w_c ?_ | with_reducible refine w_test ?_ | with_reducible refine w_tB ?_
  | with_reducible refine w_bl ?_ | with_reducible refine w_I0 ?_ | with_reducible refine w_U ?_ | with_reducible refine w_eqI ?_ | with_reducible refine w_neI ?_
  | with_reducible refine w_cons ?_ | with_reducible refine w_nil ?_ | with_reducible refine w_gn ?_ | with_reducible refine w_gsub ?_ | with_reducible refine w_and ?_ | with_reducible refine w_or ?_ | with_reducible refine w_not ?_
  | with_reducible refine w_andV ?_ | with_reducible refine w_orV ?_ | with_reducible refine w_notV ?_ | with_reducible refine w_if ?_ | with_reducible refine w_cb ?_ | with_reducible refine w_call ?_ | with_reducible refine w_lst ?_ | with_reducible refine w_tup ?_
  | with_reducible refine w_sl ?_ | with_reducible refine w_noPart ?_ | with_reducible refine w_part ?_ | with_reducible refine w_ex1 ?_ | with_reducible refine w_exb ?_ | with_reducible refine w_intB ?_ | with_reducible refine w_intI ?_ | with_reducible refine w_abs ?_)
local macro_rules | `(tactic| walk_at "rv ix") => `(tactic| ((with_reducible show rIxL _ _ _ _ _); refine' w_ixL (sq_lst ?ha) ?hb ?_; (case ha => first | exact upd_same | assumption); (case hb => first | exact rfl | assumption)))
local macro_rules | `(tactic| walk_at "rv ar") => `(tactic| first
  | (refine' w_I ?hc ?_; (case hc => first | (show (0 : Int) < _; first | assumption | decide | omega) | exact pow_c (by decide) (by decide) (by first | decide | omega) (by first | decide | omega) | exact mul_r (by first | decide | omega) (by first | decide | omega) | exact mul_l (by first | decide | omega) (by first | decide | omega) | exact divw (by first | assumption | decide | omega) (by first | assumption | decide | omega))))
local macro_rules | `(tactic| walk_at "rv go") => `(tactic| repeat first | walk_at "rv st" | walk_at "rv ix" | ((with_reducible show rI _ _ _ _ _ _); walk_at "rv ar"))
end Rv
namespace Rv
open PySem PySem.Spec PyProof.Rows L2
local macro_rules | `(tactic| walk_at "rv st") => `(tactic| first
  | with_reducible refine iteT ?_ | with_reducible refine iteF ?_ | with_reducible refine w_nx ?_ | with_reducible refine w_yes ?_ | with_reducible refine w_rt ?_ | with_reducible refine iteNT ?_ | with_reducible refine iteNF ?_ | with_reducible refine iteNRf ?_ | with_reducible refine iteRf ?_ | with_reducible refine w_seqA ?_ | with_reducible refine w_seqD ?_ | with_reducible refine w_seqP ?_ | with_reducible refine w_asg ?_ | with_reducible refine w_ret ?_ | with_reducible refine w_drop ?_ | with_reducible refine w_ifs ?_ | with_reducible refine w_next ?_ | with_reducible refine w_par ?_
  | with_reducible refine w_op ?_ | with_reducible refine w_un ?_ | ((with_reducible show tVar _ _ _ _); refine' w_var ?hv ?_; (case hv => exact rfl)) | with_reducible refine w_c ?_ | with_reducible refine w_test ?_ | with_reducible refine w_tB ?_
  | with_reducible refine w_bl ?_ | with_reducible refine w_I0 ?_ | with_reducible refine w_U ?_ | with_reducible refine w_eqI ?_ | with_reducible refine w_neI ?_
  | with_reducible refine w_cons ?_ | with_reducible refine w_nil ?_ | with_reducible refine w_gn ?_ | with_reducible refine w_gsub ?_ | with_reducible refine w_and ?_ | with_reducible refine w_or ?_ | with_reducible refine w_not ?_
  | with_reducible refine w_andV ?_ | with_reducible refine w_orV ?_ | with_reducible refine w_notV ?_ | with_reducible refine w_if ?_ | with_reducible refine w_cb ?_ | with_reducible refine w_call ?_ | with_reducible refine w_lst ?_ | with_reducible refine w_tup ?_
  | with_reducible refine w_sl ?_ | with_reducible refine w_noPart ?_ | with_reducible refine w_part ?_ | with_reducible refine w_ex1 ?_ | with_reducible refine w_exb ?_ | with_reducible refine w_intB ?_ | with_reducible refine w_intI ?_ | with_reducible refine w_abs ?_)
local macro_rules | `(tactic| walk_at "rv ix") => `(tactic| ((with_reducible show rIxL _ _ _ _ _); refine' w_ixL (sq_lst ?ha) ?hb ?_; (case ha => first | exact upd_same | assumption); (case hb => first | exact rfl | assumption)))
local macro_rules | `(tactic| walk_at "rv ar") => `(tactic| first
  | (refine' w_I ?hc ?_; (case hc => first | (show (0 : Int) < _; first | assumption | decide | omega) | exact pow_c (by decide) (by decide) (by first | decide | omega) (by first | decide | omega) | exact mul_r (by first | decide | omega) (by first | decide | omega) | exact mul_l (by first | decide | omega) (by first | decide | omega) | exact divw (by first | assumption | decide | omega) (by first | assumption | decide | omega))))
local macro_rules | `(tactic| walk_at "rv go") => `(tactic| repeat first | walk_at "rv st" | walk_at "rv ix" | ((with_reducible show rI _ _ _ _ _ _); walk_at "rv ar"))
end Rv
namespace Rv
open PySem PySem.Spec PyProof.Rows L2
local macro_rules | `(tactic| walk_at "rv st") => `(tactic| first
  | with_reducible refine iteT ?_ | with_reducible refine iteF ?_ | with_reducible refine w_nx ?_ | with_reducible refine w_yes ?_ | with_reducible refine w_rt ?_ | with_reducible refine iteNT ?_ | with_reducible refine iteNF ?_ | with_reducible refine iteNRf ?_ | with_reducible refine iteRf ?_ | with_reducible refine w_seqA ?_ | with_reducible refine w_seqD ?_ | with_reducible refine w_seqP ?_ | with_reducible refine w_asg ?_ | with_reducible refine w_ret ?_ | with_reducible refine w_drop ?_ | with_reducible refine w_ifs ?_ | with_reducible refine w_next ?_ | with_reducible refine w_par ?_
  | with_reducible refine w_op ?_ | with_reducible refine w_un ?_ | ((with_reducible show tVar _ _ _ _); refine' w_var ?hv ?_; (case hv => exact rfl)) | with_reducible refine w_c ?_ | with_reducible refine w_test ?_ | with_reducible refine w_tB ?_
  | with_reducible refine w_bl ?_ | with_reducible refine w_I0 ?_ | with_reducible refine w_U ?_ | with_reducible refine w_eqI ?_ | with_reducible refine w_neI ?_
  | with_reducible refine w_cons ?_ | with_reducible refine w_nil ?_ | with_reducible refine w_gn ?_ | with_reducible refine w_gsub ?_ | with_reducible refine w_and ?_ | with_reducible refine w_or ?_ | with_reducible refine w_not ?_
  | with_reducible refine w_andV ?_ | with_reducible refine w_orV ?_ | with_reducible refine w_notV ?_ | with_reducible refine w_if ?_ | with_reducible refine w_cb ?_ | with_reducible refine w_call ?_ | with_reducible refine w_lst ?_ | with_reducible refine w_tup ?_
  | with_reducible refine w_sl ?_ | with_reducible refine w_noPart ?_ | with_reducible refine w_part ?_ | with_reducible refine w_ex1 ?_ | with_reducible refine w_exb ?_ | with_reducible refine w_intB ?_ | with_reducible refine w_intI ?_ | with_reducible refine w_abs ?_)
local macro_rules | `(tactic| walk_at "rv ix") => `(tactic| ((with_reducible show rIxL _ _ _ _ _); refine' w_ixL (sq_lst ?ha) ?hb ?_; (case ha => first | exact upd_same | assumption); (case hb => first | exact rfl | assumption)))
local macro_rules | `(tactic| walk_at "rv ar") => `(tactic| first
  | (refine' w_I ?hc ?_; (case hc => first | (show (0 : Int) < _; first | assumption | decide | omega) | exact pow_c (by decide) (by decide) (by first | decide | omega) (by first | decide | omega) | exact mul_r (by first | decide | omega) (by first | decide | omega) | exact mul_l (by first | decide | omega) (by first | decide | omega) | exact divw (by first | assumption | decide | omega) (by first | assumption | decide | omega))))
local macro_rules | `(tactic| walk_at "rv go") => `(tactic| repeat first | walk_at "rv st" | walk_at "rv ix" | ((with_reducible show rI _ _ _ _ _ _); walk_at "rv ar"))
end Rv
namespace Rv
open PySem PySem.Spec PyProof.Rows L2
local macro_rules | `(tactic| walk_at "rv st") => `(tactic| first
  | with_reducible refine iteT ?_ | with_reducible refine iteF ?_ | with_reducible refine w_nx ?_ | with_reducible refine w_yes ?_ | with_reducible refine w_rt ?_ | with_reducible refine iteNT ?_ | with_reducible refine iteNF ?_ | with_reducible refine iteNRf ?_ | with_reducible refine iteRf ?_ | with_reducible refine w_seqA ?_ | with_reducible refine w_seqD ?_ | with_reducible refine w_seqP ?_ | with_reducible refine w_asg ?_ | with_reducible refine w_ret ?_ | with_reducible refine w_drop ?_ | with_reducible refine w_ifs ?_ | with_reducible refine w_next ?_ | with_reducible refine w_par ?_
  | with_reducible refine w_op ?_ | with_reducible refine w_un ?_ | ((with_reducible show tVar _ _ _ _); refine' w_var ?hv ?_; (case hv => exact rfl)) | with_reducible refine w_c ?_ | with_reducible refine w_test ?_ | with_reducible refine w_tB ?_
  | with_reducible refine w_bl ?_ | with_reducible refine w_I0 ?_ | with_reducible refine w_U ?_ | with_reducible refine w_eqI ?_ | with_reducible refine w_neI ?_
  | with_reducible refine w_cons ?_ | with_reducible refine w_nil ?_ | with_reducible refine w_gn ?_ | with_reducible refine w_gsub ?_ | with_reducible refine w_and ?_ | with_reducible refine w_or ?_ | with_reducible refine w_not ?_
  | with_reducible refine w_andV ?_ | with_reducible refine w_orV ?_ | with_reducible refine w_notV ?_ | with_reducible refine w_if ?_ | with_reducible refine w_cb ?_ | with_reducible refine w_call ?_ | with_reducible refine w_lst ?_ | with_reducible refine w_tup ?_
  | with_reducible refine w_sl ?_ | with_reducible refine w_noPart ?_ | with_reducible refine w_part ?_ | with_reducible refine w_ex1 ?_ | with_reducible refine w_exb ?_ | with_reducible refine w_intB ?_ | with_reducible refine w_intI ?_ | with_reducible refine w_abs ?_)
local macro_rules | `(tactic| walk_at "rv ix") => `(tactic| ((with_reducible show rIxL _ _ _ _ _); refine' w_ixL (sq_lst ?ha) ?hb ?_; (case ha => first | exact upd_same | assumption); (case hb => first | exact rfl | assumption)))
local macro_rules | `(tactic| walk_at "rv ar") => `(tactic| first
  | (refine' w_I ?hc ?_; (case hc => first | (show (0 : Int) < _; first | assumption | decide | omega) | exact pow_c (by decide) (by decide) (by first | decide | omega) (by first | decide | omega) | exact mul_r (by first | decide | omega) (by first | decide | omega) | exact mul_l (by first | decide | omega) (by first | decide | omega) | exact divw (by first | assumption | decide | omega) (by first | assumption | decide | omega))))
local macro_rules | `(tactic| walk_at "rv go") => `(tactic| repeat first | walk_at "rv st" | walk_at "rv ix" | ((with_reducible show rI _ _ _ _ _ _); walk_at "rv ar"))
end Rv
namespace Rv
open PySem PySem.Spec PyProof.Rows L2
local macro_rules | `(tactic| walk_at "rv st") => `(tactic| first
  | with_reducible refine iteT ?_ | with_reducible refine iteF ?_ | with_reducible refine w_nx ?_ | with_reducible refine w_yes ?_ | with_reducible refine w_rt ?_ | with_reducible refine iteNT ?_ | with_reducible refine iteNF ?_ | with_reducible refine iteNRf ?_ | with_reducible refine iteRf ?_ | with_reducible refine w_seqA ?_ | with_reducible refine w_seqD ?_ | with_reducible refine w_seqP ?_ | with_reducible refine w_asg ?_ | with_reducible refine w_ret ?_ | with_reducible refine w_drop ?_ | with_reducible refine w_ifs ?_ | with_reducible refine w_next ?_ | with_reducible refine w_par ?_
  | with_reducible refine w_op ?_ | with_reducible refine w_un ?_ | ((with_reducible show tVar _ _ _ _); refine' w_var ?hv ?_; (case hv => exact rfl)) | with_reducible refine w_c ?_ | with_reducible refine w_test ?_ | with_reducible refine w_tB ?_
  | with_reducible refine w_bl ?_ | with_reducible refine w_I0 ?_ | with_reducible refine w_U ?_ | with_reducible refine w_eqI ?_ | with_reducible refine w_neI ?_
  | with_reducible refine w_cons ?_ | with_reducible refine w_nil ?_ | with_reducible refine w_gn ?_ | with_reducible refine w_gsub ?_ | with_reducible refine w_and ?_ | with_reducible refine w_or ?_ | with_reducible refine w_not ?_
  | with_reducible refine w_andV ?_ | with_reducible refine w_orV ?_ | with_reducible refine w_notV ?_ | with_reducible refine w_if ?_ | with_reducible refine w_cb ?_ | with_reducible refine w_call ?_ | with_reducible refine w_lst ?_ | with_reducible refine w_tup ?_
  | with_reducible refine w_sl ?_ | with_reducible refine w_noPart ?_ | with_reducible refine w_part ?_ | with_reducible refine w_ex1 ?_ | with_reducible refine w_exb ?_ | with_reducible refine w_intB ?_ | with_reducible refine w_intI ?_ | with_reducible refine w_abs ?_)
local macro_rules | `(tactic| walk_at "rv ix") => `(tactic| ((with_reducible show rIxL _ _ _ _ _); refine' w_ixL (sq_lst ?ha) ?hb ?_; (case ha => first | exact upd_same | assumption); (case hb => first | exact rfl | assumption)))
local macro_rules | `(tactic| walk_at "rv ar") => `(tactic| first
  | (refine' w_I ?hc ?_; (case hc => first | (show (0 : Int) < _; first | assumption | decide | omega) | exact pow_c (by decide) (by decide) (by first | decide | omega) (by first | decide | omega) | exact mul_r (by first | decide | omega) (by first | decide | omega) | exact mul_l (by first | decide | omega) (by first | decide | omega) | exact divw (by first | assumption | decide | omega) (by first | assumption | decide | omega))))
local macro_rules | `(tactic| walk_at "rv go") => `(tactic| repeat first | walk_at "rv st" | walk_at "rv ix" | ((with_reducible show rI _ _ _ _ _ _); walk_at "rv ar"))
end Rv
namespace RvM
open PySem PySem.Spec PyProof.Rows L2 Rv
def suB (K : PySem.W.Frag) (x : Str) : Bool := decide (PySem.W.subIn K (.ref (He.ga K x)) (.type "int") = some false)
local macro_rules | `(tactic| walk_at "rv st") => `(tactic| first
  | with_reducible refine iteT ?_ | with_reducible refine iteF ?_ | with_reducible refine w_nx ?_ | with_reducible refine w_yes ?_ | with_reducible refine w_rt ?_ | with_reducible refine iteNT ?_ | with_reducible refine iteNF ?_ | with_reducible refine iteNRf ?_ | with_reducible refine iteRf ?_ | with_reducible refine w_seqA ?_ | with_reducible refine w_seqD ?_ | with_reducible refine w_seqP ?_ | with_reducible refine w_asg ?_ | with_reducible refine w_ret ?_ | with_reducible refine w_drop ?_ | with_reducible refine w_ifs ?_ | with_reducible refine w_next ?_ | with_reducible refine w_par ?_
  | with_reducible refine w_op ?_ | with_reducible refine w_un ?_ | ((with_reducible show tVar _ _ _ _); refine' w_var ?hv ?_; (case hv => exact rfl)) | with_reducible refine w_c ?_ | with_reducible refine w_test ?_ | with_reducible refine w_tB ?_
  | with_reducible refine w_bl ?_ | with_reducible refine w_I0 ?_ | with_reducible refine w_U ?_ | with_reducible refine w_eqI ?_ | with_reducible refine w_neI ?_
  | with_reducible refine w_cons ?_ | with_reducible refine w_nil ?_ | with_reducible refine w_gn ?_ | with_reducible refine w_gsub ?_ | with_reducible refine w_and ?_ | with_reducible refine w_or ?_ | with_reducible refine w_not ?_
  | with_reducible refine w_andV ?_ | with_reducible refine w_orV ?_ | with_reducible refine w_notV ?_ | with_reducible refine w_if ?_ | with_reducible refine w_cb ?_ | with_reducible refine w_call ?_ | with_reducible refine w_lst ?_ | with_reducible refine w_tup ?_
  | with_reducible refine w_sl ?_ | with_reducible refine w_noPart ?_ | with_reducible refine w_part ?_ | with_reducible refine w_ex1 ?_ | with_reducible refine w_exb ?_ | with_reducible refine w_intB ?_ | with_reducible refine w_intI ?_ | with_reducible refine w_abs ?_)
local macro_rules | `(tactic| walk_at "rv ix") => `(tactic| ((with_reducible show rIxL _ _ _ _ _); refine' w_ixL (sq_lst ?ha) ?hb ?_; (case ha => first | exact upd_same | assumption); (case hb => first | exact rfl | assumption)))
local macro_rules | `(tactic| walk_at "rv ar") => `(tactic| first
  | (refine' w_I ?hc ?_; (case hc => first | (show (0 : Int) < _; first | assumption | decide | omega) | exact pow_c (by decide) (by decide) (by first | decide | omega) (by first | decide | omega) | exact mul_r (by first | decide | omega) (by first | decide | omega) | exact mul_l (by first | decide | omega) (by first | decide | omega) | exact divw (by first | assumption | decide | omega) (by first | assumption | decide | omega))))
local macro_rules | `(tactic| walk_at "rv go") => `(tactic| repeat first | walk_at "rv st" | walk_at "rv ix" | ((with_reducible show rI _ _ _ _ _ _); walk_at "rv ar"))
end RvM
/-! str, bool, abs and unary minus of own instances. -/
namespace PySem.W
open PySem PySem.Calls PyProof.Rows Builtin
end PySem.W
namespace Rv
open PySem PySem.Spec PyProof.Rows L2
end Rv
namespace Rv
open PySem PySem.Spec PyProof.Rows L2
local macro_rules | `(tactic| walk_at "rv st") => `(tactic| first
  | with_reducible refine iteT ?_ | with_reducible refine iteF ?_ | with_reducible refine w_nx ?_ | with_reducible refine w_yes ?_ | with_reducible refine w_rt ?_ | with_reducible refine iteNT ?_ | with_reducible refine iteNF ?_ | with_reducible refine iteNRf ?_ | with_reducible refine iteRf ?_ | with_reducible refine w_seqA ?_ | with_reducible refine w_seqD ?_ | with_reducible refine w_seqP ?_ | with_reducible refine w_asg ?_ | with_reducible refine w_ret ?_ | with_reducible refine w_drop ?_ | with_reducible refine w_ifs ?_ | with_reducible refine w_next ?_ | with_reducible refine w_par ?_
  | with_reducible refine w_op ?_ | with_reducible refine w_un ?_ | ((with_reducible show tVar _ _ _ _); refine' w_var ?hv ?_; (case hv => exact rfl)) | with_reducible refine w_c ?_ | with_reducible refine w_test ?_ | with_reducible refine w_tB ?_
  | with_reducible refine w_bl ?_ | with_reducible refine w_I0 ?_ | with_reducible refine w_U ?_ | with_reducible refine w_eqI ?_ | with_reducible refine w_neI ?_
  | with_reducible refine w_cons ?_ | with_reducible refine w_nil ?_ | with_reducible refine w_gn ?_ | with_reducible refine w_gsub ?_ | with_reducible refine w_and ?_ | with_reducible refine w_or ?_ | with_reducible refine w_not ?_
  | with_reducible refine w_andV ?_ | with_reducible refine w_orV ?_ | with_reducible refine w_notV ?_ | with_reducible refine w_if ?_ | with_reducible refine w_cb ?_ | with_reducible refine w_call ?_ | with_reducible refine w_lst ?_ | with_reducible refine w_tup ?_
  | with_reducible refine w_sl ?_ | with_reducible refine w_noPart ?_ | with_reducible refine w_part ?_ | with_reducible refine w_ex1 ?_ | with_reducible refine w_exb ?_ | with_reducible refine w_intB ?_ | with_reducible refine w_intI ?_ | with_reducible refine w_abs ?_)
local macro_rules | `(tactic| walk_at "rv ix") => `(tactic| ((with_reducible show rIxL _ _ _ _ _); refine' w_ixL (sq_lst ?ha) ?hb ?_; (case ha => first | exact upd_same | assumption); (case hb => first | exact rfl | assumption)))
local macro_rules | `(tactic| walk_at "rv ar") => `(tactic| first
  | (refine' w_I ?hc ?_; (case hc => first | (show (0 : Int) < _; first | assumption | decide | omega) | exact pow_c (by decide) (by decide) (by first | decide | omega) (by first | decide | omega) | exact mul_r (by first | decide | omega) (by first | decide | omega) | exact mul_l (by first | decide | omega) (by first | decide | omega) | exact divw (by first | assumption | decide | omega) (by first | assumption | decide | omega))))
local macro_rules | `(tactic| walk_at "rv go") => `(tactic| repeat first | walk_at "rv st" | walk_at "rv ix" | ((with_reducible show rI _ _ _ _ _ _); walk_at "rv ar"))
end Rv
namespace Rv
open PySem PySem.Spec PyProof.Rows L2
end Rv
namespace Rv
open PySem PySem.Spec PyProof.Rows L2
local macro_rules | `(tactic| walk_at "rv st") => `(tactic| first
  | with_reducible refine iteT ?_ | with_reducible refine iteF ?_ | with_reducible refine w_nx ?_ | with_reducible refine w_yes ?_ | with_reducible refine w_rt ?_ | with_reducible refine iteNT ?_ | with_reducible refine iteNF ?_ | with_reducible refine iteNRf ?_ | with_reducible refine iteRf ?_ | with_reducible refine w_seqA ?_ | with_reducible refine w_seqD ?_ | with_reducible refine w_seqP ?_ | with_reducible refine w_asg ?_ | with_reducible refine w_ret ?_ | with_reducible refine w_drop ?_ | with_reducible refine w_ifs ?_ | with_reducible refine w_next ?_ | with_reducible refine w_par ?_
  | with_reducible refine w_op ?_ | with_reducible refine w_un ?_ | ((with_reducible show tVar _ _ _ _); refine' w_var ?hv ?_; (case hv => exact rfl)) | with_reducible refine w_c ?_ | with_reducible refine w_test ?_ | with_reducible refine w_tB ?_
  | with_reducible refine w_bl ?_ | with_reducible refine w_I0 ?_ | with_reducible refine w_U ?_ | with_reducible refine w_eqI ?_ | with_reducible refine w_neI ?_
  | with_reducible refine w_cons ?_ | with_reducible refine w_nil ?_ | with_reducible refine w_gn ?_ | with_reducible refine w_gsub ?_ | with_reducible refine w_and ?_ | with_reducible refine w_or ?_ | with_reducible refine w_not ?_
  | with_reducible refine w_andV ?_ | with_reducible refine w_orV ?_ | with_reducible refine w_notV ?_ | with_reducible refine w_if ?_ | with_reducible refine w_cb ?_ | with_reducible refine w_call ?_ | with_reducible refine w_lst ?_ | with_reducible refine w_tup ?_
  | with_reducible refine w_sl ?_ | with_reducible refine w_noPart ?_ | with_reducible refine w_part ?_ | with_reducible refine w_ex1 ?_ | with_reducible refine w_exb ?_ | with_reducible refine w_intB ?_ | with_reducible refine w_intI ?_ | with_reducible refine w_abs ?_)
local macro_rules | `(tactic| walk_at "rv ix") => `(tactic| ((with_reducible show rIxL _ _ _ _ _); refine' w_ixL (sq_lst ?ha) ?hb ?_; (case ha => first | exact upd_same | assumption); (case hb => first | exact rfl | assumption)))
local macro_rules | `(tactic| walk_at "rv ar") => `(tactic| first
  | (refine' w_I ?hc ?_; (case hc => first | (show (0 : Int) < _; first | assumption | decide | omega) | exact pow_c (by decide) (by decide) (by first | decide | omega) (by first | decide | omega) | exact mul_r (by first | decide | omega) (by first | decide | omega) | exact mul_l (by first | decide | omega) (by first | decide | omega) | exact divw (by first | assumption | decide | omega) (by first | assumption | decide | omega))))
local macro_rules | `(tactic| walk_at "rv go") => `(tactic| repeat first | walk_at "rv st" | walk_at "rv ix" | ((with_reducible show rI _ _ _ _ _ _); walk_at "rv ar"))
end Rv
namespace Rv
open PySem PySem.Spec PyProof.Rows L2
local macro_rules | `(tactic| walk_at "rv st") => `(tactic| first
  | with_reducible refine iteT ?_ | with_reducible refine iteF ?_ | with_reducible refine w_nx ?_ | with_reducible refine w_yes ?_ | with_reducible refine w_rt ?_ | with_reducible refine iteNT ?_ | with_reducible refine iteNF ?_ | with_reducible refine iteNRf ?_ | with_reducible refine iteRf ?_ | with_reducible refine w_seqA ?_ | with_reducible refine w_seqD ?_ | with_reducible refine w_seqP ?_ | with_reducible refine w_asg ?_ | with_reducible refine w_ret ?_ | with_reducible refine w_drop ?_ | with_reducible refine w_ifs ?_ | with_reducible refine w_next ?_ | with_reducible refine w_par ?_
  | with_reducible refine w_op ?_ | with_reducible refine w_un ?_ | ((with_reducible show tVar _ _ _ _); refine' w_var ?hv ?_; (case hv => exact rfl)) | with_reducible refine w_c ?_ | with_reducible refine w_test ?_ | with_reducible refine w_tB ?_
  | with_reducible refine w_bl ?_ | with_reducible refine w_I0 ?_ | with_reducible refine w_U ?_ | with_reducible refine w_eqI ?_ | with_reducible refine w_neI ?_
  | with_reducible refine w_cons ?_ | with_reducible refine w_nil ?_ | with_reducible refine w_gn ?_ | with_reducible refine w_gsub ?_ | with_reducible refine w_and ?_ | with_reducible refine w_or ?_ | with_reducible refine w_not ?_
  | with_reducible refine w_andV ?_ | with_reducible refine w_orV ?_ | with_reducible refine w_notV ?_ | with_reducible refine w_if ?_ | with_reducible refine w_cb ?_ | with_reducible refine w_call ?_ | with_reducible refine w_lst ?_ | with_reducible refine w_tup ?_
  | with_reducible refine w_sl ?_ | with_reducible refine w_noPart ?_ | with_reducible refine w_part ?_ | with_reducible refine w_ex1 ?_ | with_reducible refine w_exb ?_ | with_reducible refine w_intB ?_ | with_reducible refine w_intI ?_ | with_reducible refine w_abs ?_)
local macro_rules | `(tactic| walk_at "rv ix") => `(tactic| ((with_reducible show rIxL _ _ _ _ _); refine' w_ixL (sq_lst ?ha) ?hb ?_; (case ha => first | exact upd_same | assumption); (case hb => first | exact rfl | assumption)))
local macro_rules | `(tactic| walk_at "rv ar") => `(tactic| first
  | (refine' w_I ?hc ?_; (case hc => first | (show (0 : Int) < _; first | assumption | decide | omega) | exact pow_c (by decide) (by decide) (by first | decide | omega) (by first | decide | omega) | exact mul_r (by first | decide | omega) (by first | decide | omega) | exact mul_l (by first | decide | omega) (by first | decide | omega) | exact divw (by first | assumption | decide | omega) (by first | assumption | decide | omega))))
local macro_rules | `(tactic| walk_at "rv go") => `(tactic| repeat first | walk_at "rv st" | walk_at "rv ix" | ((with_reducible show rI _ _ _ _ _ _); walk_at "rv ar"))
end Rv
namespace Rv
open PySem PySem.Spec PyProof.Rows L2
end Rv
/-! i op o for an int i and an instance o of an own class: the int declines, the reflected def of o's class answers. -/
namespace Rv
open PySem PySem.Spec PyProof.Rows L2
end Rv
/-! sum of a list whose items are instances of an own class (and ints): the own __add__ and __radd__ run within the builtin. -/
namespace Rv
open PySem PySem.Spec PyProof.Rows L2
end Rv
/-! repr of a list whose items are instances of an own class. -/
namespace PySem.W
open PySem PySem.Calls PyProof.Rows Builtin
end PySem.W
namespace Rv
open PySem PySem.Spec PyProof.Rows L2 L2H
end Rv
/-! Methods with defaults, called by keywords or with no argument, where they may raise. -/
namespace Rv
open PySem PySem.Spec PyProof.Rows L2
end Rv
namespace Rv
open PySem PySem.Spec PyProof.Rows L2
local macro_rules | `(tactic| walk_at "rv st") => `(tactic| first
  | with_reducible refine iteT ?_ | with_reducible refine iteF ?_ | with_reducible refine w_nx ?_ | with_reducible refine w_yes ?_ | with_reducible refine w_rt ?_ | with_reducible refine iteNT ?_ | with_reducible refine iteNF ?_ | with_reducible refine iteNRf ?_ | with_reducible refine iteRf ?_ | with_reducible refine w_seqA ?_ | with_reducible refine w_seqD ?_ | with_reducible refine w_seqP ?_ | with_reducible refine w_asg ?_ | with_reducible refine w_ret ?_ | with_reducible refine w_drop ?_ | with_reducible refine w_ifs ?_ | with_reducible refine w_next ?_ | with_reducible refine w_par ?_
  | with_reducible refine w_op ?_ | with_reducible refine w_un ?_ | ((with_reducible show tVar _ _ _ _); refine' w_var ?hv ?_; (case hv => exact rfl)) | with_reducible refine w_c ?_ | with_reducible refine w_test ?_ | with_reducible refine w_tB ?_
  | with_reducible refine w_bl ?_ | with_reducible refine w_I0 ?_ | with_reducible refine w_U ?_ | with_reducible refine w_eqI ?_ | with_reducible refine w_neI ?_
  | with_reducible refine w_cons ?_ | with_reducible refine w_nil ?_ | with_reducible refine w_gn ?_ | with_reducible refine w_gsub ?_ | with_reducible refine w_and ?_ | with_reducible refine w_or ?_ | with_reducible refine w_not ?_
  | with_reducible refine w_andV ?_ | with_reducible refine w_orV ?_ | with_reducible refine w_notV ?_ | with_reducible refine w_if ?_ | with_reducible refine w_cb ?_ | with_reducible refine w_call ?_ | with_reducible refine w_lst ?_ | with_reducible refine w_tup ?_
  | with_reducible refine w_sl ?_ | with_reducible refine w_noPart ?_ | with_reducible refine w_part ?_ | with_reducible refine w_ex1 ?_ | with_reducible refine w_exb ?_ | with_reducible refine w_intB ?_ | with_reducible refine w_intI ?_ | with_reducible refine w_abs ?_)
local macro_rules | `(tactic| walk_at "rv ix") => `(tactic| ((with_reducible show rIxL _ _ _ _ _); refine' w_ixL (sq_lst ?ha) ?hb ?_; (case ha => first | exact upd_same | assumption); (case hb => first | exact rfl | assumption)))
local macro_rules | `(tactic| walk_at "rv ar") => `(tactic| first
  | (refine' w_I ?hc ?_; (case hc => first | (show (0 : Int) < _; first | assumption | decide | omega) | exact pow_c (by decide) (by decide) (by first | decide | omega) (by first | decide | omega) | exact mul_r (by first | decide | omega) (by first | decide | omega) | exact mul_l (by first | decide | omega) (by first | decide | omega) | exact divw (by first | assumption | decide | omega) (by first | assumption | decide | omega))))
local macro_rules | `(tactic| walk_at "rv go") => `(tactic| repeat first | walk_at "rv st" | walk_at "rv ix" | ((with_reducible show rI _ _ _ _ _ _); walk_at "rv ar"))
end Rv
namespace Rv
open PySem PySem.Spec PyProof.Rows L2
def top (i : Nat) : Stmt := PySem.Challenge.pw_rainvalleys_k02_fractions_added_and_mult.main.body.getD i (.Pass ⟨0, 0, 0, 0⟩)
abbrev s_InvalidNumber___init__ : Stmt := inClass (top 3) 0
abbrev s_is_whole : Stmt := top 5
abbrev s_common_divisor : Stmt := top 7
abbrev s_gap : Stmt := top 9
abbrev s_Ratio___init__ : Stmt := inClass (top 10) 0
abbrev s_Ratio___init__X : Stmt := inClass (top 10) 0
abbrev s_as_ratio : Stmt := top 8
abbrev s_as_ratioX : Stmt := top 8
abbrev s_Ratio_overX : Stmt := inClass (top 10) 4
abbrev s_Ratio___add__ : Stmt := inClass (top 10) 6
abbrev s_Ratio___radd__ : Stmt := inClass (top 10) 7
abbrev s_Ratio___sub__ : Stmt := inClass (top 10) 8
abbrev s_Ratio___neg__ : Stmt := inClass (top 10) 12
abbrev s_Ratio___rsub__ : Stmt := inClass (top 10) 9
abbrev s_Ratio___mul__ : Stmt := inClass (top 10) 10
abbrev s_Ratio___rmul__ : Stmt := inClass (top 10) 11
abbrev s_Ratio___repr__ : Stmt := inClass (top 10) 22
abbrev s__law_pool : Stmt := top 12
abbrev s__law_take : Stmt := top 13
abbrev s__law_whole : Stmt := top 14
abbrev s__law_is : Stmt := top 15
abbrev s__law_said : Stmt := top 16
abbrev s__law_right : Stmt := top 17
abbrev s_law : Stmt := top 18
def D_InvalidNumber___init__ : He.DefD := ⟨("InvalidNumber", some "__init__"), "__init__", "InvalidNumber.__init__", defArgs s_InvalidNumber___init__, defBody s_InvalidNumber___init__, defScope s_InvalidNumber___init__, [], []⟩
def D_is_whole : He.DefD := ⟨("is_whole", none), "is_whole", "is_whole", defArgs s_is_whole, defBody s_is_whole, defScope s_is_whole, [], []⟩
def D_common_divisor : He.DefD := ⟨("common_divisor", none), "common_divisor", "common_divisor", defArgs s_common_divisor, defBody s_common_divisor, defScope s_common_divisor, [], []⟩
def D_gap : He.DefD := ⟨("gap", none), "gap", "gap", defArgs s_gap, defBody s_gap, defScope s_gap, [], []⟩
def D_Ratio___init__ : He.DefD := ⟨("Ratio", some "__init__"), "__init__", "Ratio.__init__", defArgs s_Ratio___init__, defBody s_Ratio___init__, defScope s_Ratio___init__, [.int 1], []⟩
def D_Ratio___init__X : He.DefD := ⟨("Ratio", some "__init__"), "__init__", "Ratio.__init__", defArgs s_Ratio___init__X, defBody s_Ratio___init__X, defScope s_Ratio___init__X, [.int 1], []⟩
def D_as_ratio : He.DefD := ⟨("as_ratio", none), "as_ratio", "as_ratio", defArgs s_as_ratio, defBody s_as_ratio, defScope s_as_ratio, [], []⟩
def D_as_ratioX : He.DefD := ⟨("as_ratio", none), "as_ratio", "as_ratio", defArgs s_as_ratioX, defBody s_as_ratioX, defScope s_as_ratioX, [], []⟩
def D_Ratio_overX : He.DefD := ⟨("Ratio", some "over"), "over", "Ratio.over", defArgs s_Ratio_overX, defBody s_Ratio_overX, defScope s_Ratio_overX, [], []⟩
def D_Ratio___add__ : He.DefD := ⟨("Ratio", some "__add__"), "__add__", "Ratio.__add__", defArgs s_Ratio___add__, defBody s_Ratio___add__, defScope s_Ratio___add__, [], []⟩
def D_Ratio___radd__ : He.DefD := ⟨("Ratio", some "__radd__"), "__radd__", "Ratio.__radd__", defArgs s_Ratio___radd__, defBody s_Ratio___radd__, defScope s_Ratio___radd__, [], []⟩
def D_Ratio___sub__ : He.DefD := ⟨("Ratio", some "__sub__"), "__sub__", "Ratio.__sub__", defArgs s_Ratio___sub__, defBody s_Ratio___sub__, defScope s_Ratio___sub__, [], []⟩
def D_Ratio___neg__ : He.DefD := ⟨("Ratio", some "__neg__"), "__neg__", "Ratio.__neg__", defArgs s_Ratio___neg__, defBody s_Ratio___neg__, defScope s_Ratio___neg__, [], []⟩
def D_Ratio___rsub__ : He.DefD := ⟨("Ratio", some "__rsub__"), "__rsub__", "Ratio.__rsub__", defArgs s_Ratio___rsub__, defBody s_Ratio___rsub__, defScope s_Ratio___rsub__, [], []⟩
def D_Ratio___mul__ : He.DefD := ⟨("Ratio", some "__mul__"), "__mul__", "Ratio.__mul__", defArgs s_Ratio___mul__, defBody s_Ratio___mul__, defScope s_Ratio___mul__, [], []⟩
def D_Ratio___rmul__ : He.DefD := ⟨("Ratio", some "__rmul__"), "__rmul__", "Ratio.__rmul__", defArgs s_Ratio___rmul__, defBody s_Ratio___rmul__, defScope s_Ratio___rmul__, [], []⟩
def D_Ratio___repr__ : He.DefD := ⟨("Ratio", some "__repr__"), "__repr__", "Ratio.__repr__", defArgs s_Ratio___repr__, defBody s_Ratio___repr__, defScope s_Ratio___repr__, [], []⟩
def D__law_pool : He.DefD := ⟨("_law_pool", none), "_law_pool", "_law_pool", defArgs s__law_pool, defBody s__law_pool, defScope s__law_pool, [], []⟩
def D__law_take : He.DefD := ⟨("_law_take", none), "_law_take", "_law_take", defArgs s__law_take, defBody s__law_take, defScope s__law_take, [], []⟩
def D__law_whole : He.DefD := ⟨("_law_whole", none), "_law_whole", "_law_whole", defArgs s__law_whole, defBody s__law_whole, defScope s__law_whole, [], []⟩
def D__law_is : He.DefD := ⟨("_law_is", none), "_law_is", "_law_is", defArgs s__law_is, defBody s__law_is, defScope s__law_is, [], []⟩
def D__law_said : He.DefD := ⟨("_law_said", none), "_law_said", "_law_said", defArgs s__law_said, defBody s__law_said, defScope s__law_said, [], []⟩
def D__law_right : He.DefD := ⟨("_law_right", none), "_law_right", "_law_right", defArgs s__law_right, defBody s__law_right, defScope s__law_right, [], []⟩
def D_law : He.DefD := ⟨("law", none), "law", "law", defArgs s_law, defBody s_law, defScope s_law, [], []⟩
def fn : List He.DefD := [D_InvalidNumber___init__, D_is_whole, D_common_divisor, D_gap, D_Ratio___init__, D_Ratio___init__X, D_as_ratio, D_as_ratioX, D_Ratio_overX, D_Ratio___add__, D_Ratio___radd__, D_Ratio___sub__, D_Ratio___neg__, D_Ratio___rsub__, D_Ratio___mul__, D_Ratio___rmul__, D_Ratio___repr__, D__law_pool, D__law_take, D__law_whole, D__law_is, D__law_said, D__law_right, D_law]
def loose : List PySem.Str := [("_wall" : PySem.Str), ("__name__" : PySem.Str), ("RainError" : PySem.Str), ("InvalidNumber" : PySem.Str), ("is_whole" : PySem.Str), ("common_divisor" : PySem.Str), ("as_ratio" : PySem.Str), ("gap" : PySem.Str), ("Ratio" : PySem.Str), ("_law_pool" : PySem.Str), ("_law_take" : PySem.Str), ("_law_whole" : PySem.Str), ("_law_is" : PySem.Str), ("_law_said" : PySem.Str), ("_law_right" : PySem.Str)]
def fa : List He.Fa := [.free "int", .free "isinstance", .free "bool", .free "abs", .free "repr", .free "len", .free "min", .free "max", .free "range", .free "sum", .glo "InvalidNumber", .glo "Ratio", .cls "Ratio", .glo "RainError", .noat "Ratio" "reduced_top", .noat "Ratio" "reduced_bottom", .mkr "Ratio", .meth "InvalidNumber" "__init__", .glo "is_whole", .glo "common_divisor", .glo "gap", .glo "as_ratio", .meth "Ratio" "over", .meth "Ratio" "__add__", .meth "Ratio" "__radd__", .meth "Ratio" "__sub__", .meth "Ratio" "__neg__", .meth "Ratio" "__rsub__", .meth "Ratio" "__mul__", .meth "Ratio" "__rmul__", .meth "Ratio" "__repr__", .glo "_law_pool", .glo "_law_take", .glo "_law_whole", .glo "_law_is", .glo "_law_said", .glo "_law_right", .glo "law"]
abbrev s_get_top : Stmt := inClass (top 10) 2
def G_top : Gt := ⟨"Ratio", "top", "Ratio.top", defArgs s_get_top, defBody s_get_top, defScope s_get_top⟩
abbrev s_get_bottom : Stmt := inClass (top 10) 3
def G_bottom : Gt := ⟨"Ratio", "bottom", "Ratio.bottom", defArgs s_get_bottom, defBody s_get_bottom, defScope s_get_bottom⟩
def gts : List Gt := [G_top, G_bottom]
def exB (K : PySem.W.Frag) : Bool := prB K "Ratio" "top" && (prB K "Ratio" "bottom" && (clB K "Ratio" && (kiB K "Ratio" && (opcB K "Ratio" && (opnB K "Ratio" "add" && (opnB K "Ratio" "sub" && (opnB K "Ratio" "mul" && (RvM.suB K "Ratio" && (odB K "Ratio" && (decide (PySem.W.kitOne K (.ref (He.ga K "Ratio")) (.type "int") = some false) && (oxB K "InvalidNumber" "ValueError.__new__" bm_ValueError && (xfB K (He.ga K "InvalidNumber") && (decide (PySem.W.findIn K (.ref (He.ga K "InvalidNumber")) "value" = some none) && (ecB K "InvalidNumber" && (bgB K "RainError" "ValueError.__init__" && (decide (PySem.W.exmOne K (.ref (He.ga K "InvalidNumber")) (.ref (He.ga K "InvalidNumber")) = some true)))))))))))))))))
abbrev RR : PySem.W.OpenRow := PySem.W.OpenLaw.row PySem.Challenge.rw_rainvalleys_k02_fractions_added_and_mult
abbrev hk : PySem.W.Hook := hookL (List.range 1500) fa fn gts exB
def ob (s : PySem.W.SharedT) : AlR := obsRL (List.range 1500) fa fn gts exB (HandSHeadRun.getT s)
theorem ob_eq (s : PySem.W.SharedT) : ob s = hk.obs s.abs := obsRL_eq (HandSHeadRun.getT_eq s)
theorem run (w : World) : HandSHeadRun.RunEq RR (PySem.W.view RR.prog [18]) hk ob 8000 loose w := by
  intro os
  kernel_rfl
end Rv
open PySem PySem.W PySem.Calls PyProof.Rows

set_option Elab.async false
set_option linter.all false
set_option maxRecDepth 100000
set_option maxHeartbeats 4000000
/-! Words of this proof: operators on values by short names, the steps of a reading, what a call of a def asks. -/
namespace Rv
open PySem PySem.Spec PyProof.Rows L2
abbrev oAdd : R2 := rI0 fun i j => .int (i + j)
abbrev oSub : R2 := rI0 fun i j => .int (i - j)
abbrev oMul : R2 := rI CMul fun i j => .int (i * j)
abbrev oMulW : R2 := rI CMulW fun i j => .int (i * j)
abbrev oDiv : R2 := rI CDivW fun i j => .int (i / j)
abbrev oMod : R2 := rI (fun _ j => 0 < j) fun i j => .int (i % j)
abbrev oPow : R2 := rI CPow fun i j => .int (i ^ j.toNat)
abbrev oLt : R2 := rI0 fun i j => .bl (decide (i < j))
abbrev oGt : R2 := rI0 fun i j => .bl (decide (j < i))
abbrev oGe : R2 := rI0 fun i j => .bl (decide (j ≤ i))
abbrev oIsN : R2 := fun x y H Q => y = .non ∧ Q (.bl (decide (x = .non))) H
abbrev cLen (K : PySem.W.Frag) : List V → Hp → VK → Prop := fun xs H Q => ∃ p ys, xs = [.ref p] ∧ (SqL K H p ys ∨ SqT K H p ys) ∧ Q (.int ys.length) H
abbrev cMax2 : List V → Hp → VK → Prop := fun xs H Q => ∃ i j, xs = [.int i, .int j] ∧ Q (.int (if j > i then j else i)) H
abbrev cMin2 : List V → Hp → VK → Prop := fun xs H Q => ∃ i j, xs = [.int i, .int j] ∧ Q (.int (if j < i then j else i)) H
/-- a def of the module as its callers see it -/
structure Cal (P : Program) (w : World) (K : PySem.W.Frag) (mg : Str → Option Value) (base : Heap) (CX : CXT) (k : Nat) (x : Str) (ps : List Str) (sp : Sp) : Prop where
  ex : ∃ f fd, FnOk P w K mg base CX k f fd ps sp ∧ mg x = some (.ref f) ∧ PySem.W.keepIn K (.ref f) = true ∧ Binds K fd ps []
section
variable {X : Cx} {CX : CXT} {k : Nat} {x : Str} {ps : List Str} {sp : Sp} {E : XK} {p pos : Pos} {e : Expr} {es : List Expr} {t : TA}
theorem pe_cal (c : Cal X.prog X.w X.K X.mg X.base CX k x ps sp) (hr : Room k X.A) (hg : Gl X x) (hx : Passes CX X E) (ha : PA X (e :: es) t) (hdb : (x == ("__debug__" : Str)) = false := by decide)
    (he : starEach (e :: es) X.env = (false, eval e X.env) :: starEach es X.env := by rfl) (hpl : (backTo pos (starEach es X.env)).any (·.1) = false := by rfl) :
    PE X (.Call (.Name x p) (e :: es) [] pos) (tCall sp [] E t) := by
  obtain ⟨f, fd, F, hm, hk, hb⟩ := c.ex
  first
    | exact pe_call F hr hg hm hk hb .nil hx ha hdb he hpl
    | exact pe_call F hr hg hm hk hb .nil hx ha
end
section
variable {K : PySem.W.Frag} {σ : L2.St} {H : Hp} {Q : VK} {D : Ends} {v x y : V} {i j : Int} {n : Nat} {ta tb te to ti : TE} {t u c : TT} {tr : TA} {b : Bool} {r : R2} {s1 s2 : TS} {g : TG} {p : Addr} {xs : List V} {TQ : Bool → Hp → Prop} {AQ : List V → Hp → Prop} {HQ : Hp → Prop} {GQ : L2.St → Hp → Prop}
theorem w_seq (q : s1 { D with nx := s2 D } σ H) : tSeq s1 s2 D σ H := q
theorem w_setL {k : Int} {j : Nat} (h : H p = some (.lst xs)) (hj : ixN xs.length k = some j) (q : HQ (upd H p (.lst (xs.set j v)))) : rSetL (.ref p) (.int k) v H HQ := ⟨p, xs, k, j, rfl, rfl, h, hj, q⟩
theorem w_lenL (h : SqL K H p xs) (q : Q (.int xs.length) H) : cLen K [.ref p] H Q := ⟨p, xs, rfl, .inl h, q⟩
theorem w_slL {lo hi : Option Int} (h : SqL K H p xs) (q : ∀ q', H q' = none → Q (.ref q') (upd H q' (.lst (cutV xs lo hi)))) : rSlL K (.ref p) lo hi H Q := ⟨p, xs, rfl, h, q⟩
/-- a test whose answer is open: both ways -/
theorem w_both {c A B : Prop} [Decidable c] (h1 : c → A) (h2 : ¬ c → B) : if decide c = true then A else B := by
  by_cases h : c
  · rw [decide_eq_true h]
    exact iteT (h1 h)
  · rw [decide_eq_false h]
    exact iteF (h2 h)
theorem w_bothN {c A B : Prop} [Decidable c] (h1 : ¬ c → A) (h2 : c → B) : if (!decide c) = true then A else B := by
  by_cases h : c
  · rw [decide_eq_true h]
    exact iteF (h2 h)
  · rw [decide_eq_false h]
    exact iteT (h1 h)
end
theorem But.refl (d : Addr) (H : Hp) : But d H H := fun _ _ _ h => h
theorem But.trans {d : Addr} {H H1 H2 : Hp} (a : But d H H1) (b : But d H1 H2) : But d H H2 := fun c o n h => b c o n (a c o n h)
theorem But.wr {d : Addr} {H H' : Hp} {o : HO} (a : But d H H') : But d H (upd H' d o) := fun c u n h => by
  rw [upd_ne n]
  exact a c u n h
theorem But.same {d : Addr} {H H' : Hp} (a : Same H H') : But d H H' := fun c u _ z => a c u z
theorem same_new {p : Addr} {H H' : Hp} {o : HO} (a : Same H H') (h : H' p = none) : Same H (upd H' p o) := fun c u z => by
  have q := a c u z
  rw [upd_ne (ne_of_none q h)]
  exact q
theorem sq_tup {K : PySem.W.Frag} {H : Hp} {a : Addr} {xs : List V} (h : H a = some (.tup xs)) : SqT K H a xs := .inl (.inl h)
theorem at_nat {xs : List V} {j : Nat} {v : V} (h : xs[j]? = some v) : atI xs (j : Int) = some v := atI_nat h
theorem szl {n : Nat} (h : n ≤ 100000) : n ≤ sizeLine := Nat.le_trans h (by decide)
end Rv
namespace Rv
open PySem PySem.Spec PyProof.Rows L2
/-- a class of the module whose instances are made by its __init__ (dvs: the defaults that fill up) -/
structure CalM (P : Program) (w : World) (K : PySem.W.Frag) (mg : Str → Option Value) (base : Heap) (CX : CXT) (k : Nat) (x : Str) (C : Addr) (ps : List Str) (sp : Sp) (dvs : List V) : Prop where
  ex : ∃ f fd ds, FnOk P w K mg base CX k f fd ps sp ∧ Mk K C f ∧ mg x = some (.ref C) ∧ Binds K fd ps ds ∧ Vals dvs ds
/-- a property of a class that hands back a field -/
structure CalP (P : Program) (w : World) (K : PySem.W.Frag) (mg : Str → Option Value) (base : Heap) (CX : CXT) (k : Nat) (C : Addr) (f : Str) (sp : Sp) : Prop where
  ex : ∃ p g fd, FnOk P w K mg base CX k g fd ["self"] sp ∧ Cls K C ∧ PropOf K C f p g ∧ Binds K fd ["self"] []
/-- a method of a class -/
structure CalT (P : Program) (w : World) (K : PySem.W.Frag) (mg : Str → Option Value) (base : Heap) (CX : CXT) (k : Nat) (C : Addr) (m : Str) (ps : List Str) (sp : Sp) : Prop where
  ex : ∃ f fd, FnOk P w K mg base CX k f fd ps sp ∧ Cls K C ∧ Meth K C m f ∧ Binds K fd ps []
section
variable {X : Cx} {CX : CXT} {k : Nat} {x f m : Str} {ps : List Str} {sp : Sp} {E : XK} {p pos apos : Pos} {e o : Expr} {es : List Expr} {t : TA} {ta : TE} {C : Addr} {dvs : List V}
theorem pe_calm (c : CalM X.prog X.w X.K X.mg X.base CX k x C ps sp dvs) (hr : Room (k + 1) X.A) (hg : Gl X x) (hx : Passes CX X E) (ha : PA X (e :: es) t) (hdb : (x == ("__debug__" : Str)) = false := by decide)
    (he : starEach (e :: es) X.env = (false, eval e X.env) :: starEach es X.env := by rfl) (hpl : (backTo pos (starEach es X.env)).any (·.1) = false := by rfl) :
    PE X (.Call (.Name x p) (e :: es) [] pos) (tMake C sp dvs E t) := by
  obtain ⟨f, fd, ds, F, M, hm, hb, hd⟩ := c.ex
  exact pe_make M F hr hg hm hb hd hx ha hdb he hpl
theorem pe_calp (c : CalP X.prog X.w X.K X.mg X.base CX k C f sp) (hr : Room (k + 1) X.A) (hx : Passes CX X.nox E) (ha : PE X e ta) (hab : attributeBase e f X.env (eval e X.env) = eval e X.env) :
    PE X (.Attribute e f pos) (tProp C sp [] E ta) := by
  obtain ⟨q, g, fd, F, cl, hp, hb⟩ := c.ex
  exact pe_prop ha cl hp F hr hb .nil hx hab
theorem pe_calt {pl : Sem Bool} (c : CalT X.prog X.w X.K X.mg X.base CX k C m ps sp) (hr : Room k X.A) (hx : Passes CX X E) (ho : PE X o ta) (ha : PA X (e :: es) t)
    (he : starEach (e :: es) X.env = (false, eval e X.env) :: starEach es X.env := by rfl) (hpl : (backTo pos (starEach es X.env)).any (·.1) = false := by rfl)
    (ht : eval (.Call (.Attribute o m apos) (e :: es) [] pos) X.env = (do let ov ← eval o X.env; standAt apos.atName; let (f, first) ← holding [ov] (getMethod ov m pl); callWith pos f first (backTo pos (starEach (e :: es) X.env)) (backToKw pos (keywordEach [] X.env))) := by rfl) :
    PE X (.Call (.Attribute o m apos) (e :: es) [] pos) (tMeth C m sp [] E ta t) := by
  obtain ⟨f, fd, F, cl, hm, hb⟩ := c.ex
  exact pe_meth ho cl hm F hr hb .nil hx ha he hpl ht
end
end Rv
namespace Rv
open PySem PySem.Spec PyProof.Rows L2
section
variable {K : PySem.W.Frag} {σ : L2.St} {H : Hp} {Q : VK} {D : Ends} {v x y : V} {i j : Int} {n slot : Nat} {ta tb tc te to ti tv tl : TE} {t u c tt : TT} {tr : TA} {b : Bool} {r r' : R2} {s1 s2 : TS} {g : TG} {p a d C dx : Addr} {xs : List V} {f : Str} {fs : List (Str × V)} {GQ2 : Hp → Prop}
theorem w_fld (hn : σ[n]? = some (some (.ref a))) (ho : H a = some (.ins C dx fs)) (hc : Cls K C) (hf : NoAttr K C f) (hl : fs.lookup f = some v) (q : Q v H) : tFld K (tVar n) f σ H Q := ⟨_, hn, a, C, dx, fs, v, rfl, ho, hc, hf, hl, q⟩
theorem w_prop {sp : Sp} {E : XK} (hn : σ[n]? = some (some (.ref a))) (ho : H a = some (.ins C dx fs)) (q : sp [.ref a] H Q E) : tProp C sp [] E (tVar n) σ H Q := ⟨_, hn, a, dx, fs, rfl, ho, q⟩
theorem w_sfld (q : tv σ H fun y H1 => to σ H1 fun x H2 => ∃ a C dx fs, x = .ref a ∧ H2 a = some (.ins C dx fs) ∧ Cls K C ∧ NoAttr K C f ∧ fs.length < 1000 ∧ D.nx σ (upd H2 a (.ins C dx (putF f y fs)))) : sFld K to tv f D σ H := q
theorem w_put (ho : H a = some (.ins C dx fs)) (hc : Cls K C) (hf : NoAttr K C f) (hl : fs.length < 1000) (q : GQ2 (upd H a (.ins C dx (putF f y fs)))) : ∃ a' C' dx' fs', V.ref a = .ref a' ∧ H a' = some (.ins C' dx' fs') ∧ Cls K C' ∧ NoAttr K C' f ∧ fs'.length < 1000 ∧ GQ2 (upd H a' (.ins C' dx' (putF f y fs'))) := ⟨a, C, dx, fs, rfl, ho, hc, hf, hl, q⟩
/-- a call of a maker -/
theorem w_make {sp : Sp} {dvs : List V} {E : XK} (q : tr σ H fun vs H1 => ∀ x dx, H1 x = none → H1 dx = none → dx ≠ x → sp (.ref x :: (vs ++ dvs)) (upd (upd H1 dx (.own x)) x (.ins C dx [])) (fun v H2 => v = .non ∧ Q (.ref x) H2) E) : tMake C sp dvs E tr σ H Q := q
/-- while -/
theorem w_while (W : Nat → L2.St → Hp → Prop) {m : Nat} (h0 : W m σ H) (hs : ∀ m σ' H', W m σ' H' → c σ' H' fun b H1 => if b = true then (∃ N : L2.St → Hp → Prop, (∀ σ2 H2, N σ2 H2 → ∃ m', m' < m ∧ W m' σ2 H2) ∧ s1 { D with nx := N, ct := N, bk := D.nx } σ' H1) else D.nx σ' H1) : tWhile c s1 D σ H := ⟨W, ⟨m, h0⟩, hs⟩
theorem w_turn {W : Nat → L2.St → Hp → Prop} {m : Nat} {σ' : L2.St} {H1 : Hp} {D2 : Ends} (h : s1 { D2 with nx := fun σ2 H2 => ∃ m', m' < m ∧ W m' σ2 H2, ct := fun σ2 H2 => ∃ m', m' < m ∧ W m' σ2 H2, bk := D2.nx } σ' H1) :
    ∃ N : L2.St → Hp → Prop, (∀ σ2 H2, N σ2 H2 → ∃ m', m' < m ∧ W m' σ2 H2) ∧ s1 { D2 with nx := N, ct := N, bk := D2.nx } σ' H1 := ⟨_, fun _ _ z => z, h⟩
end
end Rv
namespace Rv
open PySem PySem.Spec PyProof.Rows L2
section
variable {K : PySem.W.Frag} {σ : L2.St} {H : Hp} {Q : VK} {D : Ends} {v x y : V} {i j : Int} {n slot : Nat} {ta tb tc te to ti tv tl : TE} {t u c tt : TT} {tr : TA} {b b2 : Bool} {g : TG} {p a l : Addr} {xs ys : List V} {vs : List Nat}
/-- a list, two lists that are at hand -/
def iAt (K : PySem.W.Frag) (a : Addr) : TI := fun _ H R => (∃ xs, SqL K H a xs) ∧ R (Itl K a) H
end
end Rv
namespace Rv
open PySem PySem.Spec PyProof.Rows L2
/-! what the top leaves behind, beyond defs and methods: properties, an own ==, getters -/
theorem pr_of {K : PySem.W.Frag} {x f : Str} (h : prB K x f = true) : PropOf K (He.ga K x) f (prA K x f) (gtA K x f) := by
  obtain ⟨h1, h⟩ := He.ba h
  obtain ⟨h2, h⟩ := He.ba h
  obtain ⟨h3, h4⟩ := He.ba h
  refine ⟨He.eqO_ok h1, He.eqO_ok h2, of_decide_eq_true h3, ?_⟩
  unfold gtA
  cases q : PySem.W.recIn K (prA K x f) "property" with
  | none =>
    rw [q] at h4
    cases h4
  | some l =>
    rw [q] at h4
    match l, h4 with
    | .ref g :: r, _ => exact ⟨r, rfl⟩
theorem gt_fun {K : PySem.W.Frag} {g : Gt} {a : Addr} (e : txt K a = g.val) (c : txB K a g.qual = true) : ∃ z, FunD K g.pr g.qual g.params g.body g.scope [] [] a z := by
  obtain ⟨kp, c⟩ := He.ba c
  unfold txt at e
  cases q : K.lookup a with
  | none =>
    rw [q] at e
    cases e
  | some o =>
    obtain ⟨o1, o2, o3, o4⟩ := o
    rw [q] at e c
    cases o3 with
    | func z =>
      obtain ⟨z1, z2, z3, z4, z5, z6, z7, z8, z9, z10, z11, z12, z13, z14, z15⟩ := z
      have e2 : (some (z1, z2, z3, z4, z5, z6, z7, z15) : He.FnW) = some (g.pr, g.qual, g.params, .stmts g.body, g.scope, mainGlobals, [], builtinsNs) := e
      simp only [Option.some.injEq, Prod.mk.injEq] at e2
      obtain ⟨r1, r2, r3, r4, r5, r6, r7, r8⟩ := e2
      subst r1 r2 r3 r4 r5 r6 r7 r8
      obtain ⟨u1, u2⟩ := He.ba (show (PySem.W.codeIn K z13 _ && isNn z8) = true from c)
      cases z8 with
      | none => exact ⟨_, ⟨o1, o2, _, z9, z10, z11, z12, z13, z14, o4, rfl, q, u1, .inl ⟨rfl, rfl⟩, .inl rfl⟩, kp⟩
      | _ => cases u2
    | _ => cases c
/-! the hook: facts, defs, getters, one more test -/
section
variable {fa : List He.Fa} {fn : List He.DefD} {gs : List Gt} {ex : PySem.W.Frag → Bool} {K : PySem.W.Frag}
theorem SaysR.d (c : SaysR fa fn gs ex K) : He.SaysD fa fn K := congrArg (fun z : AlR => z.1) c
theorem SaysR.x (c : SaysR fa fn gs ex K) : ex K = true := (He.ba (show (ex K && gs.all fun g => txB K (gtA K g.cl g.pr) g.qual) = true from congrArg (fun z : AlR => z.2.1) c)).1
theorem SaysR.g (c : SaysR fa fn gs ex K) (i : Nat) {g : Gt} (h : gs[i]? = some g := by rfl) : ∃ z, FunD K g.pr g.qual g.params g.body g.scope [] [] (gtA K g.cl g.pr) z := by
  have c1 := (He.ba (show (ex K && gs.all fun g => txB K (gtA K g.cl g.pr) g.qual) = true from congrArg (fun z : AlR => z.2.1) c)).2
  have e : gs.map (fun g => txt K (gtA K g.cl g.pr)) = gs.map Gt.val := congrArg (fun z : AlR => z.2.2) c
  have e2 : (gs.map fun g => txt K (gtA K g.cl g.pr))[i]? = (gs.map Gt.val)[i]? := by rw [e]
  rw [List.getElem?_map, List.getElem?_map, h] at e2
  exact gt_fun (Option.some.inj e2) (List.all_eq_true.mp c1 g (List.mem_of_getElem? h))
end
end Rv
namespace Rv
open PySem PySem.Spec PyProof.Rows L2
/-! the hook with the addresses said -/
end Rv
namespace Rv
open PySem PySem.Spec PyProof.Rows L2
/-! ### the law's draws: a list of the cells, a place, a number in use, a seed -/
def DrawsAt (H : Hp) (d c : Addr) : Prop := ∃ (ns : List Int) (pos num seed : Int), H d = some (.lst [.ref c, .int pos, .int num, .int seed]) ∧ H c = some (.lst (ns.map V.int)) ∧ c ≠ d ∧ 0 ≤ pos ∧ 0 ≤ num ∧ 0 ≤ seed ∧ seed < 2147483647
theorem DrawsAt.wr {H : Hp} {d c a : Addr} {o : HO} (h : DrawsAt H d c) (n1 : a ≠ d) (n2 : a ≠ c) : DrawsAt (upd H a o) d c := by
  obtain ⟨ns, pos, num, seed, h1, h2, h3⟩ := h
  exact ⟨ns, pos, num, seed, by rw [upd_ne n1.symm]; exact h1, by rw [upd_ne n2.symm]; exact h2, h3⟩
theorem DrawsAt.nd {H : Hp} {d c a : Addr} (h : DrawsAt H d c) (n : H a = none) : a ≠ d := by
  obtain ⟨ns, pos, num, seed, h1, h2, h3⟩ := h
  intro e
  rw [e, h1] at n
  cases n
theorem cut_map (ns : List Int) (lo hi : Option Int) : ∃ ms : List Int, cutV (ns.map V.int) lo hi = ms.map V.int := by
  unfold cutV
  rw [← List.map_drop, ← List.map_take]
  exact ⟨_, rfl⟩
local macro_rules | `(tactic| walk_at "rv st") => `(tactic| first
  | with_reducible refine iteT ?_ | with_reducible refine iteF ?_ | with_reducible refine w_nx ?_ | with_reducible refine w_yes ?_ | with_reducible refine w_rt ?_ | with_reducible refine iteNT ?_ | with_reducible refine iteNF ?_ | with_reducible refine iteNRf ?_ | with_reducible refine iteRf ?_ | with_reducible refine w_seqA ?_ | with_reducible refine w_seqD ?_ | with_reducible refine w_seqP ?_ | with_reducible refine w_asg ?_ | with_reducible refine w_ret ?_ | with_reducible refine w_drop ?_ | with_reducible refine w_ifs ?_ | with_reducible refine w_next ?_ | with_reducible refine w_par ?_
  | with_reducible refine w_op ?_ | with_reducible refine w_un ?_ | ((with_reducible show tVar _ _ _ _); refine' w_var ?hv ?_; (case hv => exact rfl)) | with_reducible refine w_c ?_ | with_reducible refine w_test ?_ | with_reducible refine w_tB ?_
  | with_reducible refine w_bl ?_ | with_reducible refine w_I0 ?_ | with_reducible refine w_U ?_ | with_reducible refine w_eqI ?_ | with_reducible refine w_neI ?_
  | with_reducible refine w_cons ?_ | with_reducible refine w_nil ?_ | with_reducible refine w_gn ?_ | with_reducible refine w_gsub ?_ | with_reducible refine w_and ?_ | with_reducible refine w_or ?_ | with_reducible refine w_not ?_
  | with_reducible refine w_andV ?_ | with_reducible refine w_orV ?_ | with_reducible refine w_notV ?_ | with_reducible refine w_if ?_ | with_reducible refine w_cb ?_ | with_reducible refine w_call ?_ | with_reducible refine w_lst ?_ | with_reducible refine w_tup ?_
  | with_reducible refine w_sl ?_ | with_reducible refine w_noPart ?_ | with_reducible refine w_part ?_ | with_reducible refine w_ex1 ?_ | with_reducible refine w_exb ?_ | with_reducible refine w_intB ?_ | with_reducible refine w_intI ?_ | with_reducible refine w_abs ?_)
local macro_rules | `(tactic| walk_at "rv ix") => `(tactic| ((with_reducible show rIxL _ _ _ _ _); refine' w_ixL (sq_lst ?ha) ?hb ?_; (case ha => first | exact upd_same | assumption); (case hb => first | exact rfl | assumption)))
local macro_rules | `(tactic| walk_at "rv ar") => `(tactic| first
  | (refine' w_I ?hc ?_; (case hc => first | (show (0 : Int) < _; first | assumption | decide | omega) | exact pow_c (by decide) (by decide) (by first | decide | omega) (by first | decide | omega) | exact mul_r (by first | decide | omega) (by first | decide | omega) | exact mul_l (by first | decide | omega) (by first | decide | omega) | exact divw (by first | assumption | decide | omega) (by first | assumption | decide | omega))))
local macro_rules | `(tactic| walk_at "rv go") => `(tactic| repeat first | walk_at "rv st" | walk_at "rv ix" | ((with_reducible show rI _ _ _ _ _ _); walk_at "rv ar"))
end Rv
/-! enumerate of a tuple, and of a list or a tuple. -/
namespace PySem
end PySem
namespace Rv
open PySem PySem.Spec PyProof.Rows L2
end Rv
namespace Rv
open PySem PySem.Spec PyProof.Rows L2
/-! values: is it an integer -/
inductive Whole (K : PySem.W.Frag) (H : Hp) : V → Prop where
  | int (i : Int) : Whole K H (.int i)
  | bl (b : Bool) : Whole K H (.bl b)
  | other {v : V} {t : Value} (h : TyX K H v t) (k : PySem.W.kitOne K t (.type "int") = some false) (n1 : ∀ i, v ≠ .int i) : Whole K H v
def isI : V → Bool
  | .int _ => true
  | _ => false
def spWhole (K : PySem.W.Frag) : Sp := fun vs H Q _ => ∃ v, vs = [v] ∧ Whole K H v ∧ Q (.bl (isI v)) H
theorem isi_of {K : PySem.W.Frag} {H : Hp} {Q : VK} {x c : V} {t u : Value} {b : Bool} (h1 : ClsV c u) (h2 : TyX K H x t) (h3 : PySem.W.kitOne K t u = some b) (q : Q (.bl b) H) : rIsi K [x, c] H Q := ⟨x, c, t, u, b, rfl, h1, h2, h3, q⟩
theorem kit_ii {K : PySem.W.Frag} : PySem.W.kitOne K (.type "int") (.type "int") = some true := kit_ty (by decide +kernel)
theorem kit_ib {K : PySem.W.Frag} : PySem.W.kitOne K (.type "int") (.type "bool") = some false := kit_ty (by decide +kernel)
theorem kit_bi {K : PySem.W.Frag} : PySem.W.kitOne K (.type "bool") (.type "int") = some true := kit_ty (by decide +kernel)
theorem kit_bb {K : PySem.W.Frag} : PySem.W.kitOne K (.type "bool") (.type "bool") = some true := kit_ty (by decide +kernel)
/-- a row that is a list or a tuple -/
def RowAt (K : PySem.W.Frag) (H : Hp) (a : Addr) (xs : List V) : Prop := H a = some (.lst xs) ∨ H a = some (.tup xs)
theorem RowAt.same {K : PySem.W.Frag} {H H' : Hp} {a : Addr} {xs : List V} (h : RowAt K H a xs) (e : Same H H') : RowAt K H' a xs := h.elim (fun h => .inl (e _ _ h)) fun h => .inr (e _ _ h)
def pfl (t1 t2 : Addr) : List (Str × V) := putF "column_widths" (.ref t2) (putF "column_heights" (.ref t1) [])
/-- a Profile stands at p -/
def ProfAt (K : PySem.W.Frag) (C : Addr) (H : Hp) (p : Addr) (hs ws : List Int) : Prop := ∃ dx t1 t2, H p = some (.ins C dx (pfl t1 t2)) ∧ H t1 = some (.tup (hs.map V.int)) ∧ H t2 = some (.tup (ws.map V.int))
theorem ProfAt.same {K : PySem.W.Frag} {C : Addr} {H H' : Hp} {p : Addr} {hs ws : List Int} (h : ProfAt K C H p hs ws) (e : Same H H') : ProfAt K C H' p hs ws := by
  obtain ⟨dx, t1, t2, h1, h2, h3⟩ := h
  exact ⟨dx, t1, t2, e _ _ h1, e _ _ h2, e _ _ h3⟩
def t_is_whole (K : PySem.W.Frag) : TS :=
  (tRet (tAndV (tCB (rIsi K) (tCons (tVar 0) (tCons (tC (.ty "int")) tNil))) (tNotV (tCB (rIsi K) (tCons (tVar 0) (tCons (tC (.ty "bool")) tNil))))))
local macro_rules | `(tactic| walk_at "rv st") => `(tactic| first
  | with_reducible refine iteT ?_ | with_reducible refine iteF ?_ | with_reducible refine w_nx ?_ | with_reducible refine w_yes ?_ | with_reducible refine w_rt ?_ | with_reducible refine iteNT ?_ | with_reducible refine iteNF ?_ | with_reducible refine iteNRf ?_ | with_reducible refine iteRf ?_ | with_reducible refine w_seqA ?_ | with_reducible refine w_seqD ?_ | with_reducible refine w_seqP ?_ | with_reducible refine w_asg ?_ | with_reducible refine w_ret ?_ | with_reducible refine w_drop ?_ | with_reducible refine w_ifs ?_ | with_reducible refine w_next ?_ | with_reducible refine w_par ?_
  | with_reducible refine w_op ?_ | with_reducible refine w_un ?_ | ((with_reducible show tVar _ _ _ _); refine' w_var ?hv ?_; (case hv => exact rfl)) | with_reducible refine w_c ?_ | with_reducible refine w_test ?_ | with_reducible refine w_tB ?_
  | with_reducible refine w_bl ?_ | with_reducible refine w_I0 ?_ | with_reducible refine w_U ?_ | with_reducible refine w_eqI ?_ | with_reducible refine w_neI ?_
  | with_reducible refine w_cons ?_ | with_reducible refine w_nil ?_ | with_reducible refine w_gn ?_ | with_reducible refine w_gsub ?_ | with_reducible refine w_and ?_ | with_reducible refine w_or ?_ | with_reducible refine w_not ?_
  | with_reducible refine w_andV ?_ | with_reducible refine w_orV ?_ | with_reducible refine w_notV ?_ | with_reducible refine w_if ?_ | with_reducible refine w_cb ?_ | with_reducible refine w_call ?_ | with_reducible refine w_lst ?_ | with_reducible refine w_tup ?_
  | with_reducible refine w_sl ?_ | with_reducible refine w_noPart ?_ | with_reducible refine w_part ?_ | with_reducible refine w_ex1 ?_ | with_reducible refine w_exb ?_ | with_reducible refine w_intB ?_ | with_reducible refine w_intI ?_ | with_reducible refine w_abs ?_)
local macro_rules | `(tactic| walk_at "rv ix") => `(tactic| ((with_reducible show rIxL _ _ _ _ _); refine' w_ixL (sq_lst ?ha) ?hb ?_; (case ha => first | exact upd_same | assumption); (case hb => first | exact rfl | assumption)))
local macro_rules | `(tactic| walk_at "rv ar") => `(tactic| first
  | (refine' w_I ?hc ?_; (case hc => first | (show (0 : Int) < _; first | assumption | decide | omega) | exact pow_c (by decide) (by decide) (by first | decide | omega) (by first | decide | omega) | exact mul_r (by first | decide | omega) (by first | decide | omega) | exact mul_l (by first | decide | omega) (by first | decide | omega) | exact divw (by first | assumption | decide | omega) (by first | assumption | decide | omega))))
local macro_rules | `(tactic| walk_at "rv go") => `(tactic| repeat first | walk_at "rv st" | walk_at "rv ix" | ((with_reducible show rI _ _ _ _ _ _); walk_at "rv ar"))
theorem ty_same {K : PySem.W.Frag} {H H' : Hp} {v : V} {t : Value} (h : TyX K H v t) (e : Same H H') : TyX K H' v t := by
  cases h with
  | base h =>
    cases h with
    | non => exact .base .non
    | bl x => exact .base (.bl x)
    | int i => exact .base (.int i)
    | str x => exact .base (.str x)
    | flt x => exact .base (.flt x)
    | lst h => exact .base (.lst (e _ _ h))
    | frz h => exact .base (.frz (e _ _ h))
    | tup h => exact .base (.tup (e _ _ h))
    | dK h => exact .base (.dK (e _ _ h))
    | dT h => exact .base (.dT (e _ _ h))
    | ins h cl ha hn htk hm => exact .base (.ins (e _ _ h) cl ha hn htk hm)
  | byt b => exact .byt b
  | set h => exact .set (e _ _ h)
  | kList h c => exact .kList h c
  | kTuple h c => exact .kTuple h c
  | kDict h c => exact .kDict h c
  | fTuple h => exact .fTuple (e _ _ h)
  | fDict h => exact .fDict (e _ _ h)
theorem Whole.same {K : PySem.W.Frag} {H H' : Hp} {v : V} (h : Whole K H v) (e : Same H H') : Whole K H' v := by
  cases h with
  | int i => exact .int i
  | bl b => exact .bl b
  | other h k n => exact .other (ty_same h e) k n
theorem whole_int {K : PySem.W.Frag} {H : Hp} {v : V} (h : Whole K H v) : ∃ t, TyX K H v t ∧ PySem.W.kitOne K t (.type "int") = some (isI v || match v with | .bl _ => true | _ => false) := by
  cases h with
  | int i => exact ⟨_, .base (.int i), kit_ii⟩
  | bl b => exact ⟨_, .base (.bl b), kit_bi⟩
  | other h k n1 =>
    refine ⟨_, h, ?_⟩
    rw [k]
    cases v with
    | int i => exact absurd rfl (n1 i)
    | bl b =>
      cases h with
      | base hb =>
        cases hb
        rw [kit_bi] at k
        cases k
    | _ => rfl
theorem p_whole {K : PySem.W.Frag} {vs : List V} {H : Hp} {Q : VK} {E : XK} (h : spWhole K vs H Q E) : t_is_whole K { nx := fun _ H' => Q .non H', rt := Q } (start ["value"] vs) H := by
  obtain ⟨v, rfl, hw, k⟩ := h
  unfold t_is_whole
  obtain ⟨t, h1, h2⟩ := whole_int hw
  walk_at "rv go"
  refine isi_of (.ty "int") h1 h2 ?_
  walk_at "rv go"
  cases v with
  | int i =>
    refine iteT ?_
    walk_at "rv go"
    refine isi_of (.ty "bool") (.base (.int i)) kit_ib ?_
    walk_at "rv go"
    exact k
  | bl b =>
    refine iteT ?_
    walk_at "rv go"
    refine isi_of (.ty "bool") (.base (.bl b)) kit_bb ?_
    walk_at "rv go"
    exact k
  | _ => exact k
theorem dp_ints {K : PySem.W.Frag} {H : Hp} : ∀ zs : List Int, DpAll K H (zs.map V.int) (zs.map PyData.int)
  | [] => .nil
  | z :: r => .cons (.int z) (dp_ints r)
theorem kit_self {K : PySem.W.Frag} {C : Addr} : PySem.W.kitOne K (.ref C) (.ref C) = some true := if_pos (beq_self_eq_true _)
theorem lay_ints : ∀ zs : List Int, PyData.canLayAll0 (zs.map PyData.int) = true ∧ PyData.depthAll (zs.map PyData.int) = 0
  | [] => ⟨by simp [PyData.canLayAll0], by simp [PyData.depthAll]⟩
  | z :: r => by
    have h := lay_ints r
    exact ⟨by simp [PyData.canLayAll0, PyData.canLay0, h.1], by simp [PyData.depthAll, PyData.depth, h.2]⟩
end Rv
/-! Operators, comparisons and len of instances of a class with its own defs for them. -/
namespace Rv
open PySem PySem.Spec PyProof.Rows L2
theorem back_of {P : Value → Shared → Prop} {z : V} {v : Value} {s' : Shared} (r : RelV z v) (h : P v s') : PySem.W.CmpBack P v s' := by
  have n : v ≠ .notImplemented := by
    rintro rfl
    cases z <;> first | (obtain ⟨_, e⟩ := r; cases e) | cases r
  cases v <;> first | exact h | exact absurd rfl n
/-- the second operand: an int, or an instance of the class at C -/
inductive Snd (C : Addr) (H : Hp) : V → Prop where
  | int (i : Int) : Snd C H (.int i)
  | own {b dy : Addr} {gs : List (Str × V)} (h : H b = some (.ins C dy gs)) : Snd C H (.ref b)
/-- the class at C has a def of two parameters under the name nm -/
structure CalO (P : Program) (w : World) (K : PySem.W.Frag) (mg : Str → Option Value) (base : Heap) (CX : CXT) (k : Nat) (C : Addr) (nm : Str) (sp : Sp) : Prop where
  ex : ∃ f fd, FnOk P w K mg base CX k f fd ["self", "other"] sp ∧ PySem.W.findIn K (.ref C) nm = some (some (.ref f)) ∧ PySem.W.isFn K (.ref f) = true ∧ Binds K fd ["self", "other"] []
/-- what the operators ask of the class -/
structure OpC (K : PySem.W.Frag) (C : Addr) : Prop where
  nf : PySem.W.notFirst K C (.type "int") = true
  sf : PySem.W.selfFirst K C = true
  su : PySem.W.subIn K (.type "int") (.ref C) = some false
/-- .. for one arithmetic operator (its second name, the reflected one, is a def of the class or nothing) -/
structure OpN (K : PySem.W.Frag) (C : Addr) (nm : String) : Prop where
  rd : ∃ rc, PySem.W.findIn K (.ref C) (PySem.dunderR nm) = some rc ∧ (rc = none ∨ ∃ g : Addr, rc = some (.ref g))
  i1 : ∃ fo, PySem.W.findIn K (.type "int") (PySem.dunder nm) = some fo
  i2 : ∃ ro, PySem.W.findIn K (.type "int") (PySem.dunderR nm) = some ro
def rOwnI (C : Addr) (sp : Sp) (E : XK) : R2 := fun x y H Q => ∃ a dx fs i, x = .ref a ∧ H a = some (.ins C dx fs) ∧ y = .int i ∧ sp [x, y] H Q E
section
variable {X : Cx} {CX : CXT} {k : Nat} {nm : String} {sp : Sp} {E : XK} {C f : Addr} {fd : FuncData} {pins : List (Addr × Obj)} {σ : L2.St} {H : Hp} {s : Shared} {a : Addr} {y : V} {u : Value} {Q : VK}
theorem run2 (F : FnOk X.prog X.w X.K X.mg X.base CX k f fd ["self", "other"] sp) (hb : Binds X.K fd ["self", "other"] []) (hx : Passes CX X E) (hr : Room k X.A) (I : Inv X pins σ H s) (ry : RelV y u) (q : sp [.ref a, y] H Q E) :
    wpAny (model X.prog X.w) X.A (call (.ref f) [.ref a, u]) (PySem.W.CmpBack (EP X pins σ Q)) X.xe s := by
  have r2 : Vals [V.ref a, y] [Value.ref a, u] := .cons rfl (.cons ry .nil)
  have hl := F.len _ _ _ _ q
  refine wpAny_call (codeAny_mono (F.run X.A X.stack s H ⟨[.ref a, u], []⟩ [.ref a, u] [.ref a, y] _ E hr I.env0 (by
    have := hb s [.ref a, u] I.kIn (by simpa using hl)
    simpa using this) r2 q) fun r s' hq => ?_)
  cases r with
  | error e => exact hx pins σ H s e s' I hq
  | ok fl =>
    cases fl with
    | ret w =>
      obtain ⟨z, H', I', rz, qz⟩ := I.after hq
      exact back_of rz ⟨z, H', I', rz, qz⟩
    | next => exact False.elim hq
    | brk => exact False.elim hq
    | cont => exact False.elim hq
theorem op_ownI {op : Operator} (c : CalO X.prog X.w X.K X.mg X.base CX k C (PySem.dunder op.info.2) sp) (oc : OpC X.K C) (on : OpN X.K C op.info.2) (hr : Room k X.A) (hx : Passes CX X E) : OpR X (binaryOp op) (rOwnI C sp E) := by
  intro pins s σ H x y v u Q I rx ry h
  obtain ⟨a, dx, fs, i, rfl, ha, rfl, q⟩ := h
  cases (show v = Value.ref a from rx)
  obtain ⟨f, fd, F, hs, hf, hb⟩ := c.ex
  obtain ⟨mA, J, _⟩ := ins_get I.hok ha
  obtain ⟨od, J, _⟩ := J.look
  obtain ⟨m, hF⟩ := I.fr
  have go := run2 (y := .int i) (u := u) F hb hx hr I ry q
  obtain ⟨t, rfl⟩ := (show ∃ t, u = Value.int i t from ry)
  obtain ⟨rc, r1, r2⟩ := on.rd
  obtain ⟨fo, h1⟩ := on.i1
  obtain ⟨ro, h2⟩ := on.i2
  exact PySem.W.ksp_binT (op := op) (T := "int") hF I.ok.mod.kin J rfl oc.sf hs hf r1 r2 h1 h2 oc.su go
theorem op_ownMul (c : CalO X.prog X.w X.K X.mg X.base CX k C "__mul__" sp) (oc : OpC X.K C) (on : OpN X.K C "mul") (hr : Room k X.A) (hx : Passes CX X E) : OpR X (binaryOp .Mult) (rOwnI C sp E) :=
  op_ownI (op := .Mult) (by rw [show PySem.dunder (Operator.info .Mult).2 = ("__mul__" : Str) from by decide +kernel]; exact c) oc on hr hx
theorem op_ownAdd (c : CalO X.prog X.w X.K X.mg X.base CX k C "__add__" sp) (oc : OpC X.K C) (on : OpN X.K C "add") (hr : Room k X.A) (hx : Passes CX X E) : OpR X (binaryOp .Add) (rOwnI C sp E) :=
  op_ownI (op := .Add) (by rw [show PySem.dunder (Operator.info .Add).2 = ("__add__" : Str) from by decide +kernel]; exact c) oc on hr hx
end
section
variable {K : PySem.W.Frag} {H : Hp} {Q : VK} {C a dx : Addr} {fs : List (Str × V)} {sp : Sp} {E : XK} {y : V} {i : Int}
theorem w_binI (ha : H a = some (.ins C dx fs)) (q : sp [.ref a, .int i] H Q E) : rOwnI C sp E (.ref a) (.int i) H Q := ⟨a, dx, fs, i, rfl, ha, rfl, q⟩
end
end Rv
namespace Rv
open PySem PySem.Spec PyProof.Rows L2
structure Red (n d t b : Int) : Prop where
  eq : t * d = n * b
  pos : 0 < b
  low : Int.gcd t b = 1
  le : b ≤ d
  lt : t.natAbs ≤ n.natAbs
theorem red_gcd {n d : Int} (hd : 0 < d) : Red n d (n / (Int.gcd n d : Int)) (d / (Int.gcd n d : Int)) := by
  have g0 : 0 < Int.gcd n d := Int.gcd_pos_iff.mpr (.inr (by omega))
  have g1 : (0 : Int) < (Int.gcd n d : Int) := by omega
  obtain ⟨x, hx⟩ := Int.gcd_dvd_left (a := n) (b := d)
  obtain ⟨y, hy⟩ := Int.gcd_dvd_right (a := n) (b := d)
  have low : Int.gcd x y = 1 := by
    have e : Int.gcd n d = Int.gcd n d * Int.gcd x y := by
      have q := Int.gcd_mul_left (Int.gcd n d : Int) x y
      rw [← hx, ← hy, Int.natAbs_natCast] at q
      exact q
    exact Nat.eq_of_mul_eq_mul_left g0 (by omega)
  have ex : n / (Int.gcd n d : Int) = x := by
    have q := Int.mul_ediv_cancel_left x (show (Int.gcd n d : Int) ≠ 0 by omega)
    rw [← hx] at q
    exact q
  have ey : d / (Int.gcd n d : Int) = y := by
    have q := Int.mul_ediv_cancel_left y (show (Int.gcd n d : Int) ≠ 0 by omega)
    rw [← hy] at q
    exact q
  rw [ex, ey]
  have py : 0 < y := by
    by_cases h : 0 < y
    · exact h
    · have : (Int.gcd n d : Int) * y ≤ 0 := Int.mul_nonpos_of_nonneg_of_nonpos (by omega) (by omega)
      omega
  generalize hg : Int.gcd n d = g at *
  refine ⟨?_, py, low, ?_, ?_⟩
  · rw [hx, hy]
    rw [show x * ((g : Int) * y) = (g : Int) * x * y by rw [Int.mul_left_comm, Int.mul_assoc]]
  · rw [hy]
    have := Int.mul_le_mul_of_nonneg_right (show (1 : Int) ≤ g by omega) (show 0 ≤ y by omega)
    omega
  · rw [hx, Int.natAbs_mul, Int.natAbs_natCast]
    exact Nat.le_mul_of_pos_left _ g0
theorem gcd_step {a b : Int} (hb : 0 < b) (ha : 0 ≤ a) : Int.gcd b (a % b) = Int.gcd a b := by
  have e : a = (a.natAbs : Int) := by omega
  have f : b = (b.natAbs : Int) := by omega
  rw [Int.gcd_comm a b, e, f, ← Int.natCast_emod]
  show Nat.gcd _ _ = Nat.gcd _ _
  simp only [Int.natAbs_natCast]
  rw [Nat.gcd_comm b.natAbs (a.natAbs % b.natAbs), ← Nat.gcd_rec]
def Sz (k : Nat) (z : Int) : Prop := z.natAbs < 2 ^ k
theorem Sz.mono {j k : Nat} {z : Int} (h : Sz j z) (e : j ≤ k) : Sz k z := Nat.lt_of_lt_of_le h (Nat.pow_le_pow_right (by decide) e)
theorem Sz.mul {j k : Nat} {x y : Int} (h : Sz j x) (g : Sz k y) : Sz (j + k) (x * y) := by
  unfold Sz at *
  rw [Int.natAbs_mul, Nat.pow_add]
  exact Nat.mul_lt_mul'' h g
theorem Sz.add {k : Nat} {x y : Int} (h : Sz k x) (g : Sz k y) : Sz (k + 1) (x + y) := by
  unfold Sz at *
  rw [Nat.pow_succ]
  omega
theorem Sz.sub {k : Nat} {x y : Int} (h : Sz k x) (g : Sz k y) : Sz (k + 1) (x - y) := by
  unfold Sz at *
  rw [Nat.pow_succ]
  omega
theorem Red.szt {n d t b : Int} {k : Nat} (r : Red n d t b) (h : Sz k n) : Sz k t := Nat.lt_of_le_of_lt r.lt h
theorem Red.szb {n d t b : Int} {k : Nat} (r : Red n d t b) (h : Sz k d) : Sz k b := by
  have := r.pos
  have := r.le
  unfold Sz at *
  omega
theorem Red.one {n t b : Int} (r : Red n 1 t b) : t = n ∧ b = 1 := by
  have h1 := r.pos
  have h2 := r.le
  have e : b = 1 := by omega
  have h3 := r.eq
  subst e
  omega
/-! fractions in the heap -/
def rfl2 (t b : Int) : List (Str × V) := putF "reduced_bottom" (.int b) (putF "reduced_top" (.int t) [])
theorem n_tb : ¬ (("reduced_top" : Str) = "reduced_bottom") := by decide +kernel
theorem rfl2_t (t b : Int) : (rfl2 t b).lookup ("reduced_top" : Str) = some (.int t) := by
  unfold rfl2
  rw [lookup_putF, if_neg n_tb, lookup_putF, if_pos rfl]
theorem rfl2_b (t b : Int) : (rfl2 t b).lookup ("reduced_bottom" : Str) = some (.int b) := by
  unfold rfl2
  rw [lookup_putF, if_pos rfl]
/-- a Ratio t / b in lowest terms stands at p -/
def RatAt (C : Addr) (H : Hp) (p : Addr) (t b : Int) : Prop := (0 < b ∧ Int.gcd t b = 1) ∧ ∃ dx, H p = some (.ins C dx (rfl2 t b))
theorem RatAt.same {C : Addr} {H H' : Hp} {p : Addr} {t b : Int} (h : RatAt C H p t b) (e : Same H H') : RatAt C H' p t b := by
  obtain ⟨l, dx, h1⟩ := h
  exact ⟨l, dx, e _ _ h1⟩
/-- a number: an int or a Ratio -/
def Num (C : Addr) (H : Hp) (v : V) (n d : Int) : Prop := (v = .int n ∧ d = 1) ∨ ∃ p, v = .ref p ∧ RatAt C H p n d
theorem Num.same {C : Addr} {H H' : Hp} {v : V} {n d : Int} (h : Num C H v n d) (e : Same H H') : Num C H' v n d := by
  rcases h with h | ⟨p, h1, h2⟩
  · exact .inl h
  · exact .inr ⟨p, h1, h2.same e⟩
theorem Num.pos {C : Addr} {H : Hp} {v : V} {n d : Int} (h : Num C H v n d) : 0 < d := by
  rcases h with ⟨_, h⟩ | ⟨p, _, h, _⟩
  · omega
  · exact h.1
/-- what is told of the class Ratio -/
structure RCls (K : PySem.W.Frag) (C : Addr) : Prop where
  cl : Cls K C
  nT : NoAttr K C "reduced_top"
  nB : NoAttr K C "reduced_bottom"
  cA : PySem.W.findIn K (.ref C) "__class__" = some (some (.builtin "object.__class__"))
  cG : PySem.W.specialIn K (.builtin "object.__class__") "__get__" = some (some (.builtin "getset_descriptor.__get__"))
  cT : PySem.W.takesIn K (.builtin "object.__class__") = some true
  cM : PySem.W.mroIn K C (.type "object") = some true
  ki : PySem.W.kitOne K (.type "int") (.ref C) = some false
def spGcd (K : PySem.W.Frag) : Sp := fun vs H Q _ => ∃ a b : Int, vs = [.int a, .int b] ∧ 0 ≤ a ∧ 0 ≤ b ∧ Q (.int (Int.gcd a b : Int)) H
def spRInit (K : PySem.W.Frag) (C : Addr) : Sp := fun vs H Q _ => ∃ p dx n d, vs = [.ref p, .int n, .int d] ∧ RCls K C ∧ H p = some (.ins C dx []) ∧ 0 < d ∧ Sz 8000 d ∧
  ∀ H' t b, Red n d t b → RatAt C H' p t b → (∀ c o, c ≠ p → H c = some o → H' c = some o) → Q .non H'
def spGap (K : PySem.W.Frag) (C : Addr) : Sp := fun vs H Q _ => ∃ a c t b n d, vs = [.ref a, .ref c] ∧ RCls K C ∧ RatAt C H a t b ∧ RatAt C H c n d ∧ Sz 4000 t ∧ Sz 4000 b ∧ Sz 4000 n ∧ Sz 4000 d ∧ Q (.int (t * d - n * b)) H
def spAsR (K : PySem.W.Frag) (C : Addr) : Sp := fun vs H Q _ => ∃ v n d, vs = [v] ∧ RCls K C ∧ Num C H v n d ∧ ∀ q H', Same H H' → RatAt C H' q n d → Q (.ref q) H'
def spBin (f : Int → Int → Int → Int → Int) (K : PySem.W.Frag) (C : Addr) : Sp := fun vs H Q _ => ∃ a v t b n d, vs = [.ref a, v] ∧ RCls K C ∧ RatAt C H a t b ∧ Num C H v n d ∧ Sz 3000 t ∧ Sz 3000 b ∧ Sz 3000 n ∧ Sz 3000 d ∧
  ∀ q H' x y, Same H H' → RatAt C H' q x y → Red (f t b n d) (b * d) x y → Q (.ref q) H'
def spMul : PySem.W.Frag → Addr → Sp := spBin fun t _ n _ => t * n
def spSub : PySem.W.Frag → Addr → Sp := spBin fun t b n d => t * d - n * b
def spAdd : PySem.W.Frag → Addr → Sp := spBin fun t b n d => t * d + n * b
def hN (hs : List Int) (i : Nat) : Int := (hs[i]?).getD 0
def t_common_divisor (K : PySem.W.Frag) : TS :=
  (tSeq (tWhile (tTest (tOp rNe (tVar 1) (tC (.int 0)))) (tPar 0 1 (tCons (tVar 1) (tCons (tOp oMod (tVar 0) (tVar 1)) tNil))))
    (tRet (tVar 0)))
def t_gap (K : PySem.W.Frag) (C_Ratio : Addr) : TS :=
  (tRet (tOp oSub (tOp oMulW (tFld K (tVar 0) "reduced_top") (tFld K (tVar 1) "reduced_bottom")) (tOp oMulW (tFld K (tVar 1) "reduced_top") (tFld K (tVar 0) "reduced_bottom"))))
def t_Ratio___init__ (K : PySem.W.Frag) (C_Ratio : Addr) : TS :=
  (tSeq (tIfS (tNot (tB (tCall (spWhole K) [] E0 (tCons (tVar 1) tNil)))) tNever tNext)
    (tSeq (tIfS (tOr (tNot (tB (tCall (spWhole K) [] E0 (tCons (tVar 2) tNil)))) (tTest (tOp rEq (tVar 2) (tC (.int 0))))) tNever tNext)
    (tSeq (tAsg (tCall (spGcd K) [] E0 (tCons (tCB cAbs (tCons (tVar 1) tNil)) (tCons (tCB cAbs (tCons (tVar 2) tNil)) tNil))) (gName 3))
    (tSeq (tIfS (tTest (tOp oLt (tVar 2) (tC (.int 0)))) (tAsg (tUn (rU fun i => .int (-i)) (tVar 3)) (gName 3)) tNext)
    (tSeq (sFld K (tVar 0) (tOp oDiv (tVar 1) (tVar 3)) "reduced_top")
    (sFld K (tVar 0) (tOp oDiv (tVar 2) (tVar 3)) "reduced_bottom"))))))
def t_as_ratio (K : PySem.W.Frag) (C_Ratio : Addr) : TS :=
  (tSeq (tIfS (tB (tCB (rIsi K) (tCons (tVar 0) (tCons (tC (.ref C_Ratio)) tNil)))) (tRet (tVar 0)) tNext)
    (tSeq (tIfS (tB (tCall (spWhole K) [] E0 (tCons (tVar 0) tNil))) (tRet (tMake C_Ratio (spRInit K C_Ratio) [.int 1] E0 (tCons (tVar 0) tNil))) tNext)
    (tRet (tC .non))))
def t_Ratio___mul__ (K : PySem.W.Frag) (C_Ratio : Addr) : TS :=
  (tSeq (tAsg (tCall (spAsR K C_Ratio) [] E0 (tCons (tVar 1) tNil)) (gName 2))
    (tSeq (tIfS (tTest (tOp oIsN (tVar 2) (tC .non))) tNever tNext)
    (tRet (tMake C_Ratio (spRInit K C_Ratio) [] E0 (tCons (tOp oMulW (tFld K (tVar 0) "reduced_top") (tFld K (tVar 2) "reduced_top")) (tCons (tOp oMulW (tFld K (tVar 0) "reduced_bottom") (tFld K (tVar 2) "reduced_bottom")) tNil))))))
def t_Ratio___sub__ (K : PySem.W.Frag) (C_Ratio : Addr) : TS :=
  (tSeq (tAsg (tCall (spAsR K C_Ratio) [] E0 (tCons (tVar 1) tNil)) (gName 2))
    (tSeq (tIfS (tTest (tOp oIsN (tVar 2) (tC .non))) tNever tNext)
    (tRet (tMake C_Ratio (spRInit K C_Ratio) [] E0 (tCons (tCall (spGap K C_Ratio) [] E0 (tCons (tVar 0) (tCons (tVar 2) tNil))) (tCons (tOp oMulW (tFld K (tVar 0) "reduced_bottom") (tFld K (tVar 2) "reduced_bottom")) tNil))))))
local macro_rules | `(tactic| walk_at "rv st") => `(tactic| first
  | with_reducible refine iteT ?_ | with_reducible refine iteF ?_ | with_reducible refine w_nx ?_ | with_reducible refine w_yes ?_ | with_reducible refine w_rt ?_ | with_reducible refine iteNT ?_ | with_reducible refine iteNF ?_ | with_reducible refine iteNRf ?_ | with_reducible refine iteRf ?_ | with_reducible refine w_seqA ?_ | with_reducible refine w_seqD ?_ | with_reducible refine w_seqP ?_ | with_reducible refine w_asg ?_ | with_reducible refine w_ret ?_ | with_reducible refine w_drop ?_ | with_reducible refine w_ifs ?_ | with_reducible refine w_next ?_ | with_reducible refine w_par ?_
  | with_reducible refine w_op ?_ | with_reducible refine w_un ?_ | ((with_reducible show tVar _ _ _ _); refine' w_var ?hv ?_; (case hv => exact rfl)) | with_reducible refine w_c ?_ | with_reducible refine w_test ?_ | with_reducible refine w_tB ?_
  | with_reducible refine w_bl ?_ | with_reducible refine w_I0 ?_ | with_reducible refine w_U ?_ | with_reducible refine w_eqI ?_ | with_reducible refine w_neI ?_
  | with_reducible refine w_cons ?_ | with_reducible refine w_nil ?_ | with_reducible refine w_gn ?_ | with_reducible refine w_gsub ?_ | with_reducible refine w_and ?_ | with_reducible refine w_or ?_ | with_reducible refine w_not ?_
  | with_reducible refine w_andV ?_ | with_reducible refine w_orV ?_ | with_reducible refine w_notV ?_ | with_reducible refine w_if ?_ | with_reducible refine w_cb ?_ | with_reducible refine w_call ?_ | with_reducible refine w_lst ?_ | with_reducible refine w_tup ?_
  | with_reducible refine w_sl ?_ | with_reducible refine w_noPart ?_ | with_reducible refine w_part ?_ | with_reducible refine w_ex1 ?_ | with_reducible refine w_exb ?_ | with_reducible refine w_intB ?_ | with_reducible refine w_intI ?_ | with_reducible refine w_abs ?_)
local macro_rules | `(tactic| walk_at "rv ix") => `(tactic| ((with_reducible show rIxL _ _ _ _ _); refine' w_ixL (sq_lst ?ha) ?hb ?_; (case ha => first | exact upd_same | assumption); (case hb => first | exact rfl | assumption)))
local macro_rules | `(tactic| walk_at "rv ar") => `(tactic| first
  | (refine' w_I ?hc ?_; (case hc => first | (show (0 : Int) < _; first | assumption | decide | omega) | exact pow_c (by decide) (by decide) (by first | decide | omega) (by first | decide | omega) | exact mul_r (by first | decide | omega) (by first | decide | omega) | exact mul_l (by first | decide | omega) (by first | decide | omega) | exact divw (by first | assumption | decide | omega) (by first | assumption | decide | omega))))
local macro_rules | `(tactic| walk_at "rv go") => `(tactic| repeat first | walk_at "rv st" | walk_at "rv ix" | ((with_reducible show rI _ _ _ _ _ _); walk_at "rv ar"))
theorem whole_call {K : PySem.W.Frag} {H : Hp} {Q : VK} {E : XK} {i : Int} (q : Q (.bl true) H) : spWhole K ([.int i] ++ []) H Q E := ⟨.int i, rfl, .int i, q⟩
theorem mulw {j k : Nat} {x y : Int} (h : Sz j x) (g : Sz k y) (h0 : 0 < j) (h1 : 0 < k) (h2 : j + k ≤ 1000000) : CMulW x y := wide_mul h g h0 h1 h2
theorem p_gcd {K : PySem.W.Frag} {vs : List V} {H : Hp} {Q : VK} {E : XK} (h : spGcd K vs H Q E) : t_common_divisor K { nx := fun _ H' => Q .non H', rt := Q } (start ["first", "second"] vs) H := by
  obtain ⟨a, b, rfl, ha, hb, k⟩ := h
  unfold t_common_divisor
  refine w_seq ?_
  refine w_while (fun m σ' H' => ∃ x y : Int, σ' = [some (.int x), some (.int y)] ∧ 0 ≤ x ∧ 0 ≤ y ∧ m = y.toNat ∧ Int.gcd x y = Int.gcd a b ∧ H' = H) (m := b.toNat) ⟨a, b, rfl, ha, hb, rfl, rfl, rfl⟩ ?_
  rintro m σ' H' ⟨x, y, rfl, hx, hy, rfl, e, rfl⟩
  walk_at "rv go"
  refine w_bothN (fun h1 => ?_) (fun h1 => ?_)
  · refine w_turn ?_
    have y0 : 0 < y := by omega
    have z1 := Int.emod_lt_of_pos x y0
    have z2 := Int.emod_nonneg x (show y ≠ 0 by omega)
    walk_at "rv go"
    refine ⟨_, _, rfl, ?_⟩
    exact ⟨(x % y).toNat, by omega, y, x % y, rfl, hy, z2, rfl, by rw [gcd_step y0 hx]; exact e, rfl⟩
  · subst h1
    walk_at "rv go"
    rw [← e, Int.gcd_zero_right] at k
    have e2 : ((x.natAbs : Nat) : Int) = x := by omega
    rw [e2] at k
    exact k
theorem p_gap {K : PySem.W.Frag} {C : Addr} {vs : List V} {H : Hp} {Q : VK} {E : XK} (h : spGap K C vs H Q E) : t_gap K C { nx := fun _ H' => Q .non H', rt := Q } (start ["left", "right"] vs) H := by
  obtain ⟨a, c, t, b, n, d, rfl, R, ⟨l1, dx, h1⟩, ⟨l2, dy, h2⟩, s1, s2, s3, s4, k⟩ := h
  unfold t_gap
  walk_at "rv go"
  refine w_fld rfl h1 R.cl R.nT (rfl2_t _ _) ?_
  refine w_fld rfl h2 R.cl R.nB (rfl2_b _ _) ?_
  refine w_I (mulw s1 s4 (by decide) (by decide) (by decide)) ?_
  walk_at "rv go"
  refine w_fld rfl h2 R.cl R.nT (rfl2_t _ _) ?_
  refine w_fld rfl h1 R.cl R.nB (rfl2_b _ _) ?_
  refine w_I (mulw s3 s2 (by decide) (by decide) (by decide)) ?_
  walk_at "rv go"
  exact k
theorem p_rinit {K : PySem.W.Frag} {C : Addr} {vs : List V} {H : Hp} {Q : VK} {E : XK} (h : spRInit K C vs H Q E) : t_Ratio___init__ K C { nx := fun _ H' => Q .non H', rt := Q } (start ["self", "numerator", "denominator", "divisor"] vs) H := by
  obtain ⟨p, dx, n, d, rfl, R, hp, hd, sd, k⟩ := h
  unfold t_Ratio___init__
  refine w_seq ?_
  walk_at "rv go"
  refine whole_call ?_
  walk_at "rv go"
  refine w_seq ?_
  walk_at "rv go"
  refine whole_call ?_
  walk_at "rv go"
  rw [decide_eq_false (show ¬ d = 0 by omega)]
  walk_at "rv go"
  refine ⟨_, _, rfl, by split <;> omega, by split <;> omega, ?_⟩
  have eg : Int.gcd (if n < 0 then -n else n) (if d < 0 then -d else d) = Int.gcd n d := by
    have e1 : (if n < 0 then -n else n).natAbs = n.natAbs := by split <;> omega
    have e2 : (if d < 0 then -d else d).natAbs = d.natAbs := by split <;> omega
    show Nat.gcd _ _ = Nat.gcd _ _
    rw [e1, e2]
  rw [eg]
  have red := red_gcd (n := n) hd
  have g0 : 0 < Int.gcd n d := Int.gcd_pos_iff.mpr (.inr (by omega))
  have gd : Int.gcd n d ≤ d.natAbs := by
    have := Int.gcd_dvd_right (a := n) (b := d)
    have z := Int.le_of_dvd hd this
    omega
  have sg : Sz 8000 (Int.gcd n d : Int) := by
    unfold Sz at *
    rw [Int.natAbs_natCast]
    omega
  have cd : ∀ z : Int, CDivW z (Int.gcd n d : Int) := fun z => wide_div (b := 8000) (by omega) sg (by decide) (by decide)
  generalize (Int.gcd n d : Int) = g at *
  walk_at "rv go"
  refine w_seq ?_
  walk_at "rv go"
  rw [decide_eq_false (show ¬ d < 0 by omega)]
  walk_at "rv go"
  refine w_seq ?_
  refine w_sfld ?_
  walk_at "rv go"
  refine w_I (cd _) ?_
  walk_at "rv go"
  refine w_put hp R.cl R.nT (by decide) ?_
  refine w_nx ?_
  refine w_sfld ?_
  walk_at "rv go"
  refine w_I (cd _) ?_
  walk_at "rv go"
  refine w_put (fs := putF "reduced_top" (.int (n / g)) []) upd_same R.cl R.nB (by show (1 : Nat) < 1000; decide) ?_
  refine k _ _ _ red ⟨⟨red.pos, red.low⟩, dx, upd_same⟩ fun c o nc hc => ?_
  rw [upd_ne nc, upd_ne nc]
  exact hc
theorem mk_rat {K : PySem.W.Frag} {C : Addr} {H : Hp} {Q : Addr → Hp → Prop} {E : XK} {n d : Int} {us dvs : List V} (hu : us ++ dvs = [.int n, .int d]) (R : RCls K C) (hd : 0 < d) (sd : Sz 8000 d) (k : ∀ x H' t b, Same H H' → Red n d t b → RatAt C H' x t b → Q x H') :
    ∀ x dx, H x = none → H dx = none → dx ≠ x → spRInit K C (.ref x :: (us ++ dvs)) (upd (upd H dx (.own x)) x (.ins C dx [])) (fun v H2 => v = .non ∧ Q x H2) E := by
  intro x dx nx ndx hne
  rw [hu]
  have s0 : Same H (upd (upd H dx (.own x)) x (.ins C dx [])) := fun b o hb => by
    rw [upd_ne (ne_of_none hb nx), upd_ne (ne_of_none hb ndx)]
    exact hb
  exact ⟨x, dx, n, d, rfl, R, upd_same, hd, sd, fun H' t b r hr hf => ⟨rfl, k x H' t b (fun b o hb => hf b o (ne_of_none hb nx) (s0 b o hb)) r hr⟩⟩
theorem sz_one {k : Nat} (h : 1 ≤ k) : Sz k 1 := Nat.lt_of_lt_of_le (show Int.natAbs 1 < 2 ^ 1 by decide) (Nat.pow_le_pow_right (by decide) h)
theorem p_asR {K : PySem.W.Frag} {C : Addr} {vs : List V} {H : Hp} {Q : VK} {E : XK} (h : spAsR K C vs H Q E) : t_as_ratio K C { nx := fun _ H' => Q .non H', rt := Q } (start ["value"] vs) H := by
  obtain ⟨v, n, d, rfl, R, hv, k⟩ := h
  unfold t_as_ratio
  refine w_seq ?_
  rcases hv with ⟨rfl, rfl⟩ | ⟨p, rfl, hl, dx, hp⟩
  · walk_at "rv go"
    refine isi_of (.own C) (.base (.int n)) R.ki ?_
    walk_at "rv go"
    refine w_seq ?_
    walk_at "rv go"
    refine whole_call ?_
    walk_at "rv go"
    refine w_make ?_
    walk_at "rv go"
    refine mk_rat (Q := fun x H' => Q (.ref x) H') rfl R (by decide) (sz_one (by decide)) fun x H' t b e r hr => ?_
    obtain ⟨rfl, rfl⟩ := r.one
    exact k x H' e hr
  · walk_at "rv go"
    refine isi_of (.own C) (.base (.ins hp R.cl R.cA R.cG R.cT R.cM)) kit_self ?_
    walk_at "rv go"
    exact k p H (Same.refl H) ⟨hl, dx, hp⟩
theorem p_mul {K : PySem.W.Frag} {C : Addr} {vs : List V} {H : Hp} {Q : VK} {E : XK} (h : spMul K C vs H Q E) : t_Ratio___mul__ K C { nx := fun _ H' => Q .non H', rt := Q } (start ["self", "other", "right"] vs) H := by
  obtain ⟨a, v, t, b, n, d, rfl, R, ha, hv, s1, s2, s3, s4, k⟩ := h
  unfold t_Ratio___mul__
  walk_at "rv go"
  refine ⟨v, n, d, rfl, R, hv, fun q H1 e hq => ?_⟩
  have hd := hv.pos
  obtain ⟨l1, dx, ha⟩ := ha.same e
  obtain ⟨l2, dy, hq⟩ := hq
  walk_at "rv go"
  refine w_seq ?_
  walk_at "rv go"
  refine ⟨rfl, ?_⟩
  rw [decide_eq_false (show ¬ V.ref q = V.non from fun z => nomatch z)]
  walk_at "rv go"
  refine w_make ?_
  walk_at "rv go"
  refine w_fld rfl ha R.cl R.nT (rfl2_t _ _) ?_
  refine w_fld rfl hq R.cl R.nT (rfl2_t _ _) ?_
  refine w_I (mulw s1 s3 (by decide) (by decide) (by decide)) ?_
  walk_at "rv go"
  refine w_fld rfl ha R.cl R.nB (rfl2_b _ _) ?_
  refine w_fld rfl hq R.cl R.nB (rfl2_b _ _) ?_
  refine w_I (mulw s2 s4 (by decide) (by decide) (by decide)) ?_
  walk_at "rv go"
  exact mk_rat (Q := fun x H' => Q (.ref x) H') rfl R (Int.mul_pos l1.1 hd) ((s2.mul s4).mono (by decide)) fun x H' y z e2 r hr => k x H' y z (e.trans e2) hr r
theorem p_sub {K : PySem.W.Frag} {C : Addr} {vs : List V} {H : Hp} {Q : VK} {E : XK} (h : spSub K C vs H Q E) : t_Ratio___sub__ K C { nx := fun _ H' => Q .non H', rt := Q } (start ["self", "other", "right"] vs) H := by
  obtain ⟨a, v, t, b, n, d, rfl, R, ha, hv, s1, s2, s3, s4, k⟩ := h
  unfold t_Ratio___sub__
  walk_at "rv go"
  refine ⟨v, n, d, rfl, R, hv, fun q H1 e hq => ?_⟩
  have hd := hv.pos
  have ha2 := ha.same e
  obtain ⟨l1, dx, ha⟩ := ha.same e
  have hq2 := hq
  obtain ⟨l2, dy, hq⟩ := hq
  walk_at "rv go"
  refine w_seq ?_
  walk_at "rv go"
  refine ⟨rfl, ?_⟩
  rw [decide_eq_false (show ¬ V.ref q = V.non from fun z => nomatch z)]
  walk_at "rv go"
  refine w_make ?_
  walk_at "rv go"
  refine ⟨a, q, t, b, n, d, rfl, R, ha2, hq2, s1.mono (by decide), s2.mono (by decide), s3.mono (by decide), s4.mono (by decide), ?_⟩
  walk_at "rv go"
  refine w_fld rfl ha R.cl R.nB (rfl2_b _ _) ?_
  refine w_fld rfl hq R.cl R.nB (rfl2_b _ _) ?_
  refine w_I (mulw s2 s4 (by decide) (by decide) (by decide)) ?_
  walk_at "rv go"
  exact mk_rat (Q := fun x H' => Q (.ref x) H') rfl R (Int.mul_pos l1.1 hd) ((s2.mul s4).mono (by decide)) fun x H' y z e2 r hr => k x H' y z (e.trans e2) hr r
end Rv
/-! The head's tests of the classes Profile and Ratio. -/
namespace Rv
open PySem PySem.Spec PyProof.Rows L2
theorem rcls_of {K : PySem.W.Frag} (k : Cls K (He.ga K "Ratio")) (nT : NoAttr K (He.ga K "Ratio") "reduced_top") (nB : NoAttr K (He.ga K "Ratio") "reduced_bottom") (h : clB K "Ratio" = true) (h5 : kiB K "Ratio" = true) : RCls K (He.ga K "Ratio") := by
  obtain ⟨h1, h⟩ := He.ba h
  obtain ⟨h2, h⟩ := He.ba h
  obtain ⟨h3, h4⟩ := He.ba h
  exact ⟨k, nT, nB, He.eqO_ok h1, He.eqO_ok h2, of_decide_eq_true h3, of_decide_eq_true h4, of_decide_eq_true h5⟩
theorem opc_of {K : PySem.W.Frag} {x : Str} (h : opcB K x = true) : OpC K (He.ga K x) := by
  obtain ⟨h1, h⟩ := He.ba h
  obtain ⟨h2, h3⟩ := He.ba h
  exact ⟨h1, h2, of_decide_eq_true h3⟩
theorem opn_of {K : PySem.W.Frag} {x : Str} {nm : String} (h : opnB K x nm = true) : OpN K (He.ga K x) nm := by
  obtain ⟨h1, h⟩ := He.ba h
  obtain ⟨h2, h3⟩ := He.ba h
  refine ⟨?_, Option.isSome_iff_exists.mp h2, Option.isSome_iff_exists.mp h3⟩
  cases q : PySem.W.findIn K (.ref (He.ga K x)) (PySem.dunderR nm) with
  | none =>
    rw [q] at h1
    cases h1
  | some o =>
    rw [q] at h1
    refine ⟨o, rfl, ?_⟩
    cases o with
    | none => exact .inl rfl
    | some v =>
      cases v with
      | ref g => exact .inr ⟨g, rfl⟩
      | _ => cases h1
end Rv
namespace Rv
open PySem PySem.Spec PyProof.Rows L2
local macro_rules | `(tactic| walk_at "rv st") => `(tactic| first
  | with_reducible refine iteT ?_ | with_reducible refine iteF ?_ | with_reducible refine w_nx ?_ | with_reducible refine w_yes ?_ | with_reducible refine w_rt ?_ | with_reducible refine iteNT ?_ | with_reducible refine iteNF ?_ | with_reducible refine iteNRf ?_ | with_reducible refine iteRf ?_ | with_reducible refine w_seqA ?_ | with_reducible refine w_seqD ?_ | with_reducible refine w_seqP ?_ | with_reducible refine w_asg ?_ | with_reducible refine w_ret ?_ | with_reducible refine w_drop ?_ | with_reducible refine w_ifs ?_ | with_reducible refine w_next ?_ | with_reducible refine w_par ?_
  | with_reducible refine w_op ?_ | with_reducible refine w_un ?_ | ((with_reducible show tVar _ _ _ _); refine' w_var ?hv ?_; (case hv => exact rfl)) | with_reducible refine w_c ?_ | with_reducible refine w_test ?_ | with_reducible refine w_tB ?_
  | with_reducible refine w_bl ?_ | with_reducible refine w_I0 ?_ | with_reducible refine w_U ?_ | with_reducible refine w_eqI ?_ | with_reducible refine w_neI ?_
  | with_reducible refine w_cons ?_ | with_reducible refine w_nil ?_ | with_reducible refine w_gn ?_ | with_reducible refine w_gsub ?_ | with_reducible refine w_and ?_ | with_reducible refine w_or ?_ | with_reducible refine w_not ?_
  | with_reducible refine w_andV ?_ | with_reducible refine w_orV ?_ | with_reducible refine w_notV ?_ | with_reducible refine w_if ?_ | with_reducible refine w_cb ?_ | with_reducible refine w_call ?_ | with_reducible refine w_lst ?_ | with_reducible refine w_tup ?_
  | with_reducible refine w_sl ?_ | with_reducible refine w_noPart ?_ | with_reducible refine w_part ?_ | with_reducible refine w_ex1 ?_ | with_reducible refine w_exb ?_ | with_reducible refine w_intB ?_ | with_reducible refine w_intI ?_ | with_reducible refine w_abs ?_)
local macro_rules | `(tactic| walk_at "rv ix") => `(tactic| ((with_reducible show rIxL _ _ _ _ _); refine' w_ixL (sq_lst ?ha) ?hb ?_; (case ha => first | exact upd_same | assumption); (case hb => first | exact rfl | assumption)))
local macro_rules | `(tactic| walk_at "rv ar") => `(tactic| first
  | (refine' w_I ?hc ?_; (case hc => first | (show (0 : Int) < _; first | assumption | decide | omega) | exact pow_c (by decide) (by decide) (by first | decide | omega) (by first | decide | omega) | exact mul_r (by first | decide | omega) (by first | decide | omega) | exact mul_l (by first | decide | omega) (by first | decide | omega) | exact divw (by first | assumption | decide | omega) (by first | assumption | decide | omega))))
local macro_rules | `(tactic| walk_at "rv go") => `(tactic| repeat first | walk_at "rv st" | walk_at "rv ix" | ((with_reducible show rI _ _ _ _ _ _); walk_at "rv ar"))
theorem sz_lit {z : Int} {M k : Nat} (h : z.natAbs ≤ M) (e : M < 2 ^ k := by decide) : Sz k z := Nat.lt_of_le_of_lt h e
end Rv
namespace Rv
open PySem PySem.Spec PyProof.Rows L2
local macro_rules | `(tactic| walk_at "rv st") => `(tactic| first
  | with_reducible refine iteT ?_ | with_reducible refine iteF ?_ | with_reducible refine w_nx ?_ | with_reducible refine w_yes ?_ | with_reducible refine w_rt ?_ | with_reducible refine iteNT ?_ | with_reducible refine iteNF ?_ | with_reducible refine iteNRf ?_ | with_reducible refine iteRf ?_ | with_reducible refine w_seqA ?_ | with_reducible refine w_seqD ?_ | with_reducible refine w_seqP ?_ | with_reducible refine w_asg ?_ | with_reducible refine w_ret ?_ | with_reducible refine w_drop ?_ | with_reducible refine w_ifs ?_ | with_reducible refine w_next ?_ | with_reducible refine w_par ?_
  | with_reducible refine w_op ?_ | with_reducible refine w_un ?_ | ((with_reducible show tVar _ _ _ _); refine' w_var ?hv ?_; (case hv => exact rfl)) | with_reducible refine w_c ?_ | with_reducible refine w_test ?_ | with_reducible refine w_tB ?_
  | with_reducible refine w_bl ?_ | with_reducible refine w_I0 ?_ | with_reducible refine w_U ?_ | with_reducible refine w_eqI ?_ | with_reducible refine w_neI ?_
  | with_reducible refine w_cons ?_ | with_reducible refine w_nil ?_ | with_reducible refine w_gn ?_ | with_reducible refine w_gsub ?_ | with_reducible refine w_and ?_ | with_reducible refine w_or ?_ | with_reducible refine w_not ?_
  | with_reducible refine w_andV ?_ | with_reducible refine w_orV ?_ | with_reducible refine w_notV ?_ | with_reducible refine w_if ?_ | with_reducible refine w_cb ?_ | with_reducible refine w_call ?_ | with_reducible refine w_lst ?_ | with_reducible refine w_tup ?_
  | with_reducible refine w_sl ?_ | with_reducible refine w_noPart ?_ | with_reducible refine w_part ?_ | with_reducible refine w_ex1 ?_ | with_reducible refine w_exb ?_ | with_reducible refine w_intB ?_ | with_reducible refine w_intI ?_ | with_reducible refine w_abs ?_)
local macro_rules | `(tactic| walk_at "rv ix") => `(tactic| ((with_reducible show rIxL _ _ _ _ _); refine' w_ixL (sq_lst ?ha) ?hb ?_; (case ha => first | exact upd_same | assumption); (case hb => first | exact rfl | assumption)))
local macro_rules | `(tactic| walk_at "rv ar") => `(tactic| first
  | (refine' w_I ?hc ?_; (case hc => first | (show (0 : Int) < _; first | assumption | decide | omega) | exact pow_c (by decide) (by decide) (by first | decide | omega) (by first | decide | omega) | exact mul_r (by first | decide | omega) (by first | decide | omega) | exact mul_l (by first | decide | omega) (by first | decide | omega) | exact divw (by first | assumption | decide | omega) (by first | assumption | decide | omega))))
local macro_rules | `(tactic| walk_at "rv go") => `(tactic| repeat first | walk_at "rv st" | walk_at "rv ix" | ((with_reducible show rI _ _ _ _ _ _); walk_at "rv ar"))
end Rv
/-! Calls by keywords alone. -/
namespace Rv
open PySem PySem.Spec PyProof.Rows L2
end Rv
/-! Defs that are run where no guard is under way: what repr of lists and tuples asks. -/
namespace Rv
open PySem PySem.Spec PyProof.Rows L2
/-- a def's promise, told of callers without guards alone -/
structure FnOkG (P : Program) (w : World) (K : PySem.W.Frag) (mg : Str → Option Value) (base : Heap) (CX : CXT) (k : Nat) (f : Addr) (fd : FuncData) (ps : List Str) (sp : Sp) : Prop where
  len : ∀ vs H Q E, sp vs H Q E → vs.length = ps.length
  run : ∀ (A : Around) (outer : List Env) (s : Shared) (H : Hp) (args : Args) (us : List Value) (vs : List V) (Q : VK) (E : XK), A.guards = some [] → Room k A → Env0 P w K mg base A outer s H → BindsTo s fd args (ps.zip us) → Vals vs us → sp vs H Q E →
    codeAny (model P w) A (.call (.ref f) args) (CR CX outer P w H s Q E) s
section
variable {P : Program} {w : World} {K : PySem.W.Frag} {mg : Str → Option Value} {base : Heap} {CX : CXT} {k : Nat} {f : Addr} {fd : FuncData} {N ps : List Str} {sp : Sp} {x qual : Str} {params : Arguments} {body : List Stmt} {scope : Scope} {dvs : List V} {kws : List (Str × V)}
theorem FnOk.g (F : FnOk P w K mg base CX k f fd ps sp) : FnOkG P w K mg base CX k f fd ps sp := ⟨F.len, fun A outer s H args us vs Q E _ => F.run A outer s H args us vs Q E⟩
theorem guards_deeper {A : Around} {env : Env} (h : A.guards = some []) : (A.deeper env).guards = some [] := h
theorem FunD.okG (F : FunD K x qual params body scope dvs kws f fd) (S : FnScope N ps scope) (len : ∀ vs H Q E, sp vs H Q E → vs.length = ps.length)
    (hbody : ∀ (cdv : Value) (A : Around) (outer : List Env) (s : Shared) (H : Hp) (vs : List V) (Q : VK) (E : XK), (A.deeper (envOfC qual scope s.heap.objs.size f cdv)).guards = some [] → Room k (A.deeper (envOfC qual scope s.heap.objs.size f cdv)) → sp vs H Q E →
      ∃ t, PSs (cxOf CX P w K mg base N qual scope f cdv A outer s H E) body t ∧ t { nx := fun _ H' => Q .non H', rt := Q } (start N vs) H) : FnOkG P w K mg base CX (k + 1) f fd ps sp := by
  obtain ⟨oc, od, dV, kV, doc, pm, an, cdv, ct, osl, rfl, lk, hcd, _, _⟩ := F.ex
  refine ⟨len, fun A outer s H args us vs Q E hg hr e0 hb r hsp => ?_⟩
  have hl := len _ _ _ _ hsp
  have KX : K.In s.heap := e0.mod.kin.keeps fun b o e => (e0.bs b o e).1
  have lim : s.heap.NoLimit := e0.mod.nolimit.keeps fun b o e => (e0.bs b o e).1
  have hkind : ∀ y ∈ ps.zip us, scope.names.lookup y.1 = some .local ∨ (scope.names.lookup y.1 = some .cell ∧ ((cellsFrom (s.heap.objs.size + 1) scope.names []).lookup y.1).isSome = true) := by
    rintro ⟨n, v⟩ hy
    rcases S.par n (List.of_mem_zip hy).1 with q | q
    · exact .inl q
    · exact .inr ⟨q, PySem.W.cellsFrom_some _ _ _ (.inl q)⟩
  refine codeAny_call_function hr.depth (KX _ _ lk) rfl S.co S.gen rfl (PySem.W.codeRec_of KX hcd) (hb _ _ _ _ (wpAny_newFunctionEnv_cells S.kind hkind fun env he s1 x1 => ?_))
  subst he
  refine ⟨lim.keeps x1.toInCall.keep, codeAny_func ?_⟩
  obtain ⟨t, ht, hq⟩ := hbody cdv A outer s H vs Q E (guards_deeper hg) (hr.deeper _) hsp
  have I : Inv (cxOf CX P w K mg base N qual scope f cdv A outer s H E) [] (start N vs) H s1 := inv_start S hr.hd e0 hl r x1
  refine wpAny_mono (ht.run [] s1 (start N vs) H _ I hq) (fun fl s' hs => ?_) fun e s' hs => hs
  cases fl with
  | ret u =>
    obtain ⟨v, σ', H', J, rv, q⟩ := hs
    exact ⟨v, H', J.os, J.bare, J.base, J.hok, rv, q⟩
  | next =>
    obtain ⟨σ', H', J, q⟩ := hs
    exact ⟨.non, H', J.os, J.bare, J.base, J.hok, rfl, q⟩
  | brk =>
    obtain ⟨_, _, _, q⟩ := hs
    exact q.elim
  | cont =>
    obtain ⟨_, _, _, q⟩ := hs
    exact q.elim
end
section
variable {X : Cx} {CX : CXT} {k : Nat} {f : Addr} {fd : FuncData} {ps : List Str} {sp : Sp} {dvs : List V} {ds : List Value} {E : XK} {x : Str} {p pos : Pos} {e : Expr} {es : List Expr} {t : TA}
theorem run_fnG {pins : List (Addr × Obj)} {σ : L2.St} {H : Hp} {s : Shared} {Q : VK} {us : List Value} {vs : List V} (F : FnOkG X.prog X.w X.K X.mg X.base CX k f fd ps sp) (hg : X.A.guards = some []) (hr : Room k X.A) (hb : Binds X.K fd ps ds) (hd : Vals dvs ds) (hx : Passes CX X E)
    (I : Inv X pins σ H s) (r : Vals vs us) (h : sp (vs ++ dvs) H Q E) : wpAny (model X.prog X.w) X.A (call (.ref f) us) (EP X pins σ Q) X.xe s := by
  have r2 : Vals (vs ++ dvs) (us ++ ds) := r.append hd
  have hl : (us ++ ds).length = ps.length := by rw [← r2.length]; exact F.len _ _ _ _ h
  refine wpAny_call (codeAny_mono (F.run X.A X.stack s H ⟨us, []⟩ (us ++ ds) (vs ++ dvs) Q E hg hr I.env0 (hb s us I.kIn hl) r2 h) fun r s' hq => ?_)
  cases r with
  | error e => exact hx pins σ H s e s' I hq
  | ok fl =>
    cases fl with
    | ret u => exact I.after hq
    | next => exact hq.elim
    | brk => exact hq.elim
    | cont => exact hq.elim
end
/-- a def of the module whose promise is told of callers without guards -/
structure CalG (P : Program) (w : World) (K : PySem.W.Frag) (mg : Str → Option Value) (base : Heap) (CX : CXT) (k : Nat) (x : Str) (ps : List Str) (sp : Sp) : Prop where
  ex : ∃ f fd, FnOkG P w K mg base CX k f fd ps sp ∧ mg x = some (.ref f) ∧ PySem.W.keepIn K (.ref f) = true ∧ Binds K fd ps []
section
variable {X : Cx} {CX : CXT} {k : Nat} {x : Str} {ps : List Str} {sp : Sp} {E : XK} {p pos : Pos} {e : Expr} {es : List Expr} {t : TA}
theorem pe_calG (c : CalG X.prog X.w X.K X.mg X.base CX k x ps sp) (hgd : X.A.guards = some []) (hr : Room k X.A) (hg : Gl X x) (hx : Passes CX X E) (ha : PA X (e :: es) t) (hdb : (x == ("__debug__" : Str)) = false := by decide)
    (he : starEach (e :: es) X.env = (false, eval e X.env) :: starEach es X.env := by rfl) (hpl : (backTo pos (starEach es X.env)).any (·.1) = false := by rfl) :
    PE X (.Call (.Name x p) (e :: es) [] pos) (tCall sp [] E t) := by
  obtain ⟨f, fd, F, hm, hk, hb⟩ := c.ex
  refine ⟨fun pins s σ H Q I h => ?_⟩
  refine wpAny_Call_Name_kw (ld_glob I hg hm ?_ hdb)
  refine PySem.W.callWith_K (h₀ := X.base) I.ok.mod.kin hk (thn (ha.run pos pins s σ H _ I h) fun us s1 ⟨vs, H1, I1, r, q⟩ => ⟨I1.kIn, ?_⟩) he hpl
  exact run_fnG F hgd hr hb .nil hx I1 r q
end
/-- the law is called where nothing is under way -/
theorem law_callG {P : Program} {w : World} {K : PySem.W.Frag} {mg mb : Str → Option Value} {CX : CXT} {k : Nat} {fa a : Addr} {fd : FuncData} {x : Str} {sp : Sp} {s₁ : Shared} {vs : List Value} {ns : List Int}
    (KX : K.In s₁.heap) (hns : s₁.heap.Ns mainGlobals mg) (hb : s₁.heap.Ns builtinsNs mb) (hbb : ∀ x : Str, x ≠ "__name__" → mb x = bootBuiltins x) (hlim : s₁.heap.NoLimit) (hg : s₁.gens = #[])
    (ha : s₁.heap.get? a = some { cls := .type "list", data := .seq vs.toArray }) (hi : IntsAre vs ns) (hl : ns.length ≤ sizeLine) (hr : Room k callerA)
    (F : ∀ base : Heap, K.In base → base.Ns mainGlobals mg → FnOkG P w K mg base CX k fa fd [x] sp) (hbind : ∀ (s : Shared) (u : Value), BindsTo s fd ⟨[u], []⟩ [(x, u)])
    (hsp : ∀ H : Hp, Only H → SqL K H a (ns.map V.int) → sp [.ref a] H (fun v _ => v = .bl true) fun _ _ _ => False)
    (hCX : ∀ H e s', CX [] H s₁ (fun _ _ _ => False) e s' → False) :
    codeAny (model P w) callerA (.call (.ref fa) ⟨[.ref a], []⟩) (fun r s' => r = .ok (.ret (.bool true)) ∧ OldK s₁.heap s'.heap ∧ s'.os = s₁.os ∧ AllBare s'.gens) s₁ := by
  have rv := vals_ints hi
  have lenV := hi.length
  have core : ∀ H : Hp, Only H → SqL K H a (ns.map V.int) → HOk P w H s₁.heap → (∀ b, H b ≠ none → b = a) → (H a ≠ none → K.lookup a = none) →
      codeAny (model P w) callerA (.call (.ref fa) ⟨[.ref a], []⟩) (fun r s' => r = .ok (.ret (.bool true)) ∧ OldK s₁.heap s'.heap ∧ s'.os = s₁.os ∧ AllBare s'.gens) s₁ := by
    intro H hO hS hok hA hK
    have base_of : ∀ {b : Addr} {o : Obj}, s₁.heap.get? b = some o → H b = none → (hidT s₁.heap H).get? b = some o := fun e n => hidT_get e n
    have noA : ∀ {b : Addr} {o : Obj} {es : Array DictEntry} {ep : Nat}, s₁.heap.get? b = some o → o.data = .dict es ep → H b = none := by
      intro b o es ep e d
      cases q : H b with
      | none => rfl
      | some u =>
        have e' : b = a := hA b (by rw [q]; simp)
        subst e'
        rw [ha] at e
        cases e
        have d' : Data.seq vs.toArray _ = Data.dict es ep := d
        cases d'
    have nsK : ∀ {b : Addr} {m : Str → Option Value}, s₁.heap.Ns b m → (hidT s₁.heap H).Ns b m := fun {b m} ⟨o, es, ep, e, d, r⟩ => ⟨o, es, ep, base_of e (noA e d), d, r⟩
    have hKb : K.In (hidT s₁.heap H) := fun b o e => base_of (KX b o e) (by
      cases q : H b with
      | none => rfl
      | some u =>
        have e' : b = a := hA b (by rw [q]; simp)
        subst e'
        rw [hK (by rw [q]; simp)] at e
        cases e)
    obtain ⟨mc, l1, l2⟩ := hlim
    have hM : Mod K mg (hidT s₁.heap H) := ⟨hKb, nsK hns, ⟨mb, nsK hb, hbb⟩, ⟨mc, nsK l1, l2⟩⟩
    have e0 : Env0 P w K mg (hidT s₁.heap H) callerA [] s₁ H := ⟨rfl, hM, fun b o e => of_hidT e, Nat.le_of_eq (hidT_size _ _), trivial, fun b hb => absurd (show b ∈ ([] : List Addr) from hb) (by simp), hok, .of_eq hg⟩
    refine codeAny_mono ((F _ hKb (nsK hns)).run callerA [] s₁ H ⟨[.ref a], []⟩ [.ref a] [.ref a] _ _ rfl hr e0 (hbind s₁ (.ref a)) (.cons rfl .nil) (hsp H hO hS)) fun r s' h => ?_
    cases r with
    | error e => exact (hCX H e s' h).elim
    | ok fl =>
      cases fl with
      | next => exact h.elim
      | brk => exact h.elim
      | cont => exact h.elim
      | ret u =>
        obtain ⟨v, H', os, bare, un, hok', r', q⟩ := h
        have q' : v = .bl true := q
        subst q'
        obtain rfl : u = Value.bool true := r'
        refine ⟨rfl, OldK.of_keep fun b o e => ?_, os, bare⟩
        cases q : H b with
        | none => exact un.keep b o e q (by intro z; exact absurd (show b ∈ ([] : List Addr) from z) (by simp)) (by simp)
        | some u =>
          rcases hO b with z | ⟨ob, xs, z⟩
          · rw [q] at z
            cases z
          · have z2 := un.frzs b ob _ z
            obtain ⟨e1, _⟩ := hok b _ z
            obtain ⟨e2, _⟩ := hok' b _ z2
            rw [e] at e1
            cases e1
            exact e2
  cases hk : K.lookup a with
  | some o =>
    have e := KX a o hk
    rw [ha] at e
    cases e
    refine core (fun _ => none) (fun _ => .inl rfl) (.inr ⟨_, vs.toArray, _, hk, rfl, rfl, rfl, by rw [List.size_toArray, lenV]; exact hl, by simpa using rv⟩) (fun b u z => by
      have z' : (none : Option HO) = some u := z
      cases z') (fun b z => absurd rfl z) fun z => absurd rfl z
  | none =>
    refine core (fun b => if b = a then some (.frz { cls := .type "list", data := .seq vs.toArray } (.lst (ns.map V.int))) else none) (fun b => ?_) (.inl (.inr ⟨{ cls := .type "list", data := .seq vs.toArray }, if_pos rfl⟩)) (fun b u z => ?_) (fun b z => ?_) fun _ => hk
    · by_cases hb : b = a
      · exact .inr ⟨_, _, if_pos hb⟩
      · exact .inl (if_neg hb)
    · by_cases hb : b = a
      · have z' := (if_pos hb).symm.trans z
        cases z'
        subst hb
        exact ⟨ha, by rw [List.length_map]; exact hl, vs, _, rv, ha⟩
      · have z' := (if_neg hb).symm.trans z
        cases z'
    · by_cases hb : b = a
      · exact hb
      · exact absurd (if_neg hb) z
theorem walk_ofG {l : PySem.W.OpenLaw} {n k : Nat} {q : Program} {loose : List Str} {XP : (Str → Option Value) → Heap → Prop} {YP : World → Heap → Prop} {d : DefRec} {CX : CXT} {x : Str}
    (hn : l.most = some n) (hn2 : n ≤ sizeLine) (hdf : d.params.defaults = []) (hr : Room k callerA)
    (F : ∀ (w : World) (mg : Str → Option Value) (fa : Addr) (h : Heap), YP w h → h.Ns mainGlobals mg → mg d.name = some (.ref fa) →
      ∃ (K : PySem.W.Frag) (fd : FuncData) (sp : Sp), K.In h ∧ (∀ (s : Shared) (u : Value), BindsTo s fd ⟨[u], []⟩ [(x, u)]) ∧
        (∀ (H : Hp) (a : Addr) (ns : List Int), ns.length ≤ n → Only H → SqL K H a (ns.map V.int) → sp [.ref a] H (fun v _ => v = .bl true) fun _ _ _ => False) ∧
        ∀ base : Heap, K.In base → base.Ns mainGlobals mg → FnOkG l.prog w K mg base CX k fa fd [x] sp)
    (hCX : ∀ (H : Hp) (s : Shared) (e : Value) (s' : Shared), CX [] H s (fun _ _ _ => False) e s' → False) :
    PySem.W.WalkO q loose XP YP l.row.toRowW d [] (fun f vs => PySem.call f vs) := by
  refine Att.attach_call hn hdf fun w s₀ s₁ mg mb fa o pm cd doc a vs ns G Y ho hd hcd hmg hobj hints hlen hg => ?_
  obtain ⟨K, fd, sp, KX, hb, hsp, hF⟩ := F w mg fa _ Y G.T.g hmg
  exact law_callG KX G.T.g G.T.b G.T.builtins G.T.nolimit hg hobj hints (Nat.le_trans hlen hn2) hr hF hb (fun H hO hS => hsp H a ns hlen hO hS) fun H e s' => hCX H s₁ e s'
end Rv
/-! Texts of lists of ints, and of own instances whose def makes a text. -/
namespace Rv
open PySem PySem.Spec PyProof.Rows L2
theorem sizeLine_big : 200000 ≤ sizeLine := by decide
theorem small_log {z : Int} (h : z.natAbs < 10 ^ 32) : z.natAbs.log2 < 1920 := by
  by_cases h0 : z.natAbs = 0
  · rw [h0]; decide
  · exact (Nat.log2_lt h0).mpr (Nat.lt_of_lt_of_le h (by decide))
theorem ints_showable : ∀ {zs : List Int}, (∀ z ∈ zs, z.natAbs < 10 ^ 32) → PyData.showableAll (zs.map PyData.int) = true
  | [], _ => by simp [PyData.showableAll]
  | z :: r, h => by
    simp only [List.map_cons, PyData.showableAll, PyData.showable, Bool.and_eq_true, decide_eq_true_eq]
    exact ⟨small_log (h z List.mem_cons_self), ints_showable fun y hy => h y (List.mem_cons_of_mem _ hy)⟩
theorem ints_dict : ∀ zs : List Int, PyData.hasDictAll (zs.map PyData.int) = false
  | [] => by simp [PyData.hasDictAll]
  | z :: r => by simp only [List.map_cons, PyData.hasDictAll, PyData.hasDict, ints_dict r, Bool.or_false]
/-- f'..' of two parts or more -/
def tJoin (ts : List TE) : TE := fun σ H Q => tJs ts Str.empty σ H fun out H1 => Q (.str out) H1
theorem pe_join {X : Cx} {v1 v2 : Expr} {rest : List Expr} {ts : List TE} {pos : Pos} (h : PJ X (v1 :: v2 :: rest) ts) : PE X (.JoinedStr (v1 :: v2 :: rest) pos) (tJoin ts) := pe_joined h
section
variable {σ : L2.St} {H : Hp} {Q : VK} {t te : TE} {ts : List TE} {acc : Str} {R : Str → Hp → Prop}
theorem w_join (q : tJs ts Str.empty σ H fun out H1 => Q (.str out) H1) : tJoin ts σ H Q := q
theorem w_js (q : t σ H fun x H1 => ∃ y : Str, x = .str y ∧ (acc ++ y).length ≤ sizeLine ∧ tJs ts (acc ++ y) σ H1 R) : tJs (t :: ts) acc σ H R := q
end
end Rv
/-! t[::-1] of a tuple. -/
namespace Rv
open PySem PySem.Spec PyProof.Rows L2
end Rv
/-! Comparisons of an int with an instance of an own class: the int declines, the class's own def answers; own comparisons with values of any kind. -/
namespace Rv
open PySem PySem.Spec PyProof.Rows L2
end Rv
/-! Own comparisons with values of any kind, in both orders. -/
namespace Rv
open PySem PySem.Spec PyProof.Rows L2
/-! lowest terms -/
end Rv
/-! != of instances with an own == and no own !=; + of two own instances. -/
namespace PySem.W
open PySem PySem.Spec PyProof.Rows
end PySem.W
namespace Rv
open PySem PySem.Spec PyProof.Rows L2
end Rv
/-! Base.__init__(self, ..) where Base is an own class under ValueError that has no __init__ of its own. -/
namespace Rv
open PySem PySem.Spec PyProof.Rows L2
end Rv
/-! Own exceptions under any base of the standard ones: fields set in __init__. -/
namespace Rv
open PySem PySem.W PySem.Calls PyProof.Rows PySem.HandSPX Builtin Builtin.ObjectAttr
section
variable {prog : Program} {w : World} {A : Around} {R : Result → Shared → Prop} {hp : Heap} {g : Array GenState} {dr : Drawn} {t : Nat} {os : OsState}
variable {K : W.Frag} {nm : Str} {tk : Tok} {v : Value} {x C : Addr} {fv : Array Value} {cd : ClassData}
/-- an mro by which a store passes -/
structure Mok (m : List Value) : Prop where
  ps : ∀ self, refuseLoop self "__setattr__" m = pure ()
  ne : m.isEmpty = false
  ob : m.contains (.type "object") = true
theorem set_first (X : K.In hp) (gx : hp.get? x = some { cls := .ref C, data := .fields fv }) (gc : W.clsIn K C = some cd) (m : Mok cd.mro) (gd : cd.hasDict = true) (ga : W.findIn K (.ref C) nm = some none)
    (q : ∀ h2 u dx, (∀ b o, b ≠ x → hp.get? b = some o → h2.get? b = some o) → hp.objs.size ≤ dx → dx ≠ x → h2.get? x = some { cls := .ref C, dict := some dx, data := .fields fv } →
      h2.Ns1 dx (fun y => if y = nm then some v else none) → R (.ok (.ret .none)) ⟨h2, g, dr, u, os⟩) :
    codeAny (model prog w) A (.call (.builtin "object.__setattr__") ⟨[.ref x, .str nm tk, v], []⟩) R ⟨hp, g, dr, t, os⟩ := by
  have J : W.InstAt hp x { cls := .ref C, data := .fields fv } C none := ⟨gx, rfl, rfl, trivial⟩
  have S := F.store_object
  have n0 : x ≠ hp.objs.size := Nat.ne_of_lt (Heap.lt_size gx)
  have inO : W.Looks (model prog w) hp (isInstance (.ref x) (.type "object")) true := J.type.andThen (W.looks_mroIn X (by
    unfold W.mroIn
    rw [gc, Option.bind_some, if_neg (by rw [m.ne]; decide), m.ob]))
  refine codeAny_call_builtin S.slot.plain S.entry (@W.check_slot (model prog w) _ _ ⟨hp, g, dr, t, os⟩ "object.__setattr__" "object" "__setattr__" (.ref x) [.str nm tk, v] [] _ S.kind S.split inO (S.args (.ref x) (.str nm tk) v) ?_)
  have mr : W.Looks (model prog w) hp (mroOf (.ref C)) cd.mro := (W.looks_clsIn X gc).andThen .now
  have tn : W.Looks (model prog w) hp (storeTaker? none) none := .now
  have ck : W.Looks (model prog w) hp (classData C) cd := W.looks_clsIn X gc
  rw [W.osa_eq, refuse_eq]
  refine wpAny_bind (wpAny_bind (J.type.at (wpAny_bind (mr.at ?_))))
  rw [m.ps]
  refine wpAny_pure (wpAny_bind (J.type.at (wpAny_bind ((W.looks_findIn X ga).at (wpAny_bind (tn.at ?_))))))
  show wpAny _ _ (storeInOwnDict (.ref x) (.ref C) (.str nm tk) nm v false) _ _ _
  obtain ⟨z1, z2, z3, z4, z5, z6, z7, z8, z9, z10, z11⟩ := cd
  dsimp only at gd
  subst gd
  unfold storeInOwnDict ownDictForStores
  repeat (first | with_reducible refine HandSPX.store_in_new ?_ ?_ | with_reducible refine wpAny_loadPart_at gx ?_ | with_reducible refine ck.at ?_ | wp_step)
  · exact ⟨_, #[], _, (Heap.get?_update_ne _ _ _ _ n0.symm).trans (Heap.get?_push_at rfl rfl), rfl, fun e he => absurd he (by simp), fun _ => rfl⟩
  · intro h2 u hn hs
    have gx1 : (hp.push { cls := .type "dict", data := .dict #[] }).get? x = some { cls := .ref C, data := .fields fv } := Heap.get?_push_of_some _ gx
    refine q h2 u hp.objs.size (fun b o hb ho => ?_) (Nat.le_refl _) n0.symm ?_ hn
    · have w1 := Heap.get?_push_of_some { cls := .type "dict", data := .dict #[] } ho
      exact ((hs.2 b (Nat.ne_of_lt (Heap.lt_size ho))).trans (Heap.get?_update_ne _ _ _ _ hb)).trans w1
    · exact (hs.2 x n0).trans (Heap.get?_update_self _ gx1 rfl)
end
end Rv
namespace Rv
open PySem PySem.Spec PyProof.Rows L2
/-- an own exception class, directly or not under the standard class B -/
structure OexG (K : PySem.W.Frag) (C : Addr) (B newId initId : String) (bmB : List Value) : Prop where
  bf : ExcBaseFacts B newId initId bmB
  cls : ∃ nm q N bs bm sn sub ab col dd k0 k1 k2 k3 k5, K.lookup C = some (excClassObj nm q C N bs bm true sn sub ab col dd k0 k1 k2 k3 k5 newId) ∧ (∀ Y : String, bm.contains (.type Y) = bmB.contains (.type Y)) ∧ Mok (.ref C :: bm)
  sa : PySem.W.findIn K (.ref C) "__setattr__" = some (some (.builtin "object.__setattr__"))
  exC : PySem.W.subIn K (.ref C) (.type "BaseException") = some true
  tyC : PySem.W.typeIn K (.ref C) = some (.type "type")
  kC : PySem.W.keepIn K (.ref C) = true
/-- B.__init__(self, ..) in such a class: nothing of it is told -/
theorem base_init {X : Cx} {pins : List (Addr × Obj)} {σ : L2.St} {H : Hp} {s : Shared} {a C : Addr} {A : Around} {E : Value → Shared → Prop} {B newId initId : String} {bmB : List Value} {us : List Value} {Q : Value → Shared → Prop} (T : OexG X.K C B newId initId bmB) (I : Inv X pins σ H s)
    (e : H a = some (exo a C none)) (hl : us.length ≤ sizeLine) (h : ∀ s2, Inv X pins σ H s2 → Q .none s2) : wpAny (model X.prog X.w) A (call (.builtin initId) (.ref a :: us)) Q E s := by
  obtain ⟨nm, q, N, bs, bm, sn, sub, ab, col, dd, k0, k1, k2, k3, k5, lk, hT, _⟩ := T.cls
  obtain ⟨ta0, ho⟩ := exo_at I.hok e
  obtain ⟨hp, g, d, t, os⟩ := s
  refine wpAny_call (PySem.HandSPX.init_base T.bf hT (I.kIn _ _ lk) ho hl fun h2 t2 kk hx => ?_)
  have J := I.write (t' := t) (x := a) (e := a) (o := exo a C none) (by rw [e]; exact True.intro) (.inl rfl) kk ⟨_, hx⟩ (exo_ok hx)
  have same : upd H a (exo a C none) = H := by
    funext b
    by_cases z : b = a
    · rw [z, upd_same, e]
    · rw [upd_ne z]
  rw [same] at J
  exact h _ J
theorem mok_ref {C : Addr} {m : List Value} (h : Mok m) : Mok (.ref C :: m) := ⟨fun self => by rw [refuseLoop_ref]; exact h.ps self, rfl, by rw [List.contains_cons, h.ob, Bool.or_true]⟩
theorem mok_ve : Mok [.type "ValueError", .type "Exception", .type "BaseException", .type "object"] := ⟨fun self => F.store_ValueError.passes self, rfl, by decide +kernel⟩
section
variable {X : Cx} {pins : List (Addr × Obj)} {σ : L2.St} {H : Hp} {s : Shared} {a C : Addr} {f : Str} {y : V} {u : Value} {Q : Unit → Shared → Prop} {E : Value → Shared → Prop} {A : Around} {B newId initId : String} {bmB : List Value}
/-- self.f = y, the first field -/
theorem first_field (T : OexG X.K C B newId initId bmB) (I : Inv X pins σ H s) (e : H a = some (exo a C none)) (no : PySem.W.findIn X.K (.ref C) f = some none) (ry : RelV y u)
    (h : ∀ dx s2, H dx = none → dx ≠ a → Inv X pins σ (upd (upd H dx (exd dx [(f, y)])) a (exo a C (some dx))) s2 → Q () s2) : wpAny (model X.prog X.w) A (setAttr (.ref a) f u) Q E s := by
  obtain ⟨nm, q, N, bs, bm, sn, sub, ab, col, dd, k0, k1, k2, k3, k5, lk, _, mk⟩ := T.cls
  have ci : PySem.W.clsIn X.K C = some { name := nm, bases := bs, mro := .ref C :: bm, ns := N, qualname := q, hasDict := true, slotNames := sn, subclasses := sub, abstract := ab, collection := col, hasDel := false } := by
    unfold PySem.W.clsIn
    rw [lk] <;> rfl
  obtain ⟨ta0, ho⟩ := exo_at I.hok e
  obtain ⟨hp, g, d, t, os⟩ := s
  refine PySem.W.set_plain I.kIn (ox := { cls := .ref C, dict := none, data := .fields #[.ref ta0, .none, .none, .none, .bool false, .none] }) (od := none) ⟨ho, rfl, rfl, trivial⟩ T.sa ?_
  refine set_first I.kIn ho ci mk rfl no fun h2 tk2 dx kk dn dne hx hn => ?_
  have fr : H dx = none := I.hok.fresh dn
  have nd : ∀ {b : Addr} {o : Obj}, hp.get? b = some o → b ≠ dx := fun {b o} z => Nat.ne_of_lt (Nat.lt_of_lt_of_le (Heap.lt_size z) dn)
  have na : ∀ {b : Addr}, H b = none → b ≠ a := fun {b} n z => by
    rw [z, e] at n
    cases n
  have U : Un X.fs [] H (upd (upd H dx (exd dx [(f, y)])) a (exo a C (some dx))) hp h2 := {
    keep := fun b o z n _ _ => kk b o (na n) z
    slot := fun b o z n _ _ => ⟨o.slots, kk b o (na n) z⟩
    free := fun b o z n _ => by
      rw [upd_ne (na n), upd_ne (nd z)]
      exact n
    there := fun b o z _ => by
      by_cases w : b = a
      · exact ⟨_, by rw [w]; exact hx⟩
      · exact ⟨o, kk b o w z⟩
    tups := fun b xs z => by
      rw [upd_ne (at_ne e z exo_tup), upd_ne (ne_of_none z fr)]
      exact z
    frzs := fun b o v z => by
      rw [upd_ne (at_ne e z exo_frz), upd_ne (ne_of_none z fr)]
      exact z
    tbls := fun b ps z => ⟨#[], by rw [upd_ne (at_ne e z exo_tbl), upd_ne (ne_of_none z fr), z]; simp⟩ }
  refine h dx _ fr dne (I.un (t' := tk2) U fun b o z => ?_)
  by_cases w : b = a
  · subst w
    rw [upd_same] at z
    cases z
    exact exo_ok hx
  · rw [upd_ne w] at z
    by_cases w2 : b = dx
    · subst w2
      rw [upd_same] at z
      cases z
      exact exd_ok hn (relO_put (fs := []) ry fun _ => True.intro)
    · rw [upd_ne w2] at z
      refine (I.hok b o z).stay (fun c v c0 zz => kk c v ?_ zz) (fun c c0 => ?_) (fun c xs c0 => ?_)
      · rcases c0 with c0 | c0
        · rw [c0]
          exact w
        · exact at_ne e c0 exo_own
      · rw [upd_ne (at_ne e c0 exo_own), upd_ne (ne_of_none c0 fr)]
        exact c0
      · rw [upd_ne (at_ne e c0 exo_tup), upd_ne (ne_of_none c0 fr)]
        exact c0
end
/-! readings and rules -/
/-- Base.__init__(self, ..) by the standard initId -/
def tBaseI (K : PySem.W.Frag) (C : Addr) (B newId initId : String) (bmB : List Value) (ta : TA) : TE := fun σ H Q => ta σ H fun vs H1 => ∃ (a : Addr) (ws : List V), vs = .ref a :: ws ∧ ws.length ≤ 1000 ∧ OexG K C B newId initId bmB ∧ H1 a = some (exo a C none) ∧ Q .non H1
/-- self.f = e, the first field of it -/
def tFst (K : PySem.W.Frag) (C : Addr) (B newId initId : String) (bmB : List Value) (f : Str) (to te : TE) : TS := fun D σ H => te σ H fun y H1 => to σ H1 fun x H2 => ∃ a : Addr, x = .ref a ∧ OexG K C B newId initId bmB ∧ PySem.W.findIn K (.ref C) f = some none ∧
  H2 a = some (exo a C none) ∧ ∀ dx, H2 dx = none → dx ≠ a → D.nx σ (upd (upd H2 dx (exd dx [(f, y)])) a (exo a C (some dx)))
theorem ps_fst {X : Cx} {o e : Expr} {to te : TE} {f : Str} {p2 pos : Pos} {C : Addr} {B newId initId : String} {bmB : List Value} (ho : PE X o to) (he : PE X e te) (hs : swapsWith e (some (.Attribute o f p2)) pos.line X.env = pure false := by rfl) : PS X (.Assign [.Attribute o f p2] e pos) (tFst X.K C B newId initId bmB f to te) := by
  refine ⟨fun pins s σ H D I h => plainObj_wpAny_Assign_Attribute (thn (he.run pins s σ H _ I h) fun v s1 z1 => ?_) hs⟩
  obtain ⟨y, H1, I1, r1, q1⟩ := z1
  refine thn (ho.run pins s1 σ H1 _ I1 q1) fun u s2 z2 => ?_
  obtain ⟨x, H2, I2, r2, a, ex, T, no, ea, q⟩ := z2
  subst ex
  have e0 : u = Value.ref a := r2
  subst e0
  exact first_field T I2 ea no r1 fun dx s3 n ne J => ⟨σ, _, J, q dx n ne⟩
/-- what the top has made of an own Base without an __init__ -/
structure BaseG (K : PySem.W.Frag) (D : Addr) (initId : String) : Prop where
  rd : PySem.W.readsIn K D (.type "type") = true
  ga : PySem.W.specialIn K (.ref D) "__getattribute__" = some (some (.builtin "type.__getattribute__"))
  vi : PySem.W.findCls K (.ref D) (.type "type") "__init__" = some (.val (.builtin initId))
  hi : PySem.W.handedIn (.builtin initId) = true
theorem pe_ownbaseG {X : Cx} {e : Expr} {es : List Expr} {ta : TA} {D C : Addr} {bx : Str} {p1 p2 pos : Pos} {pl : Sem Bool} {B newId initId : String} {bmB : List Value} (T : BaseG X.K D initId) (hg : Gl X bx) (hm : X.mg bx = some (.ref D)) (ha : PA X (e :: es) ta) (hdb : (bx == ("__debug__" : Str)) = false := by decide)
    (hc : eval (.Call (.Attribute (.Name bx p1) "__init__" p2) (e :: es) [] pos) X.env = (do let ov ← eval (.Name bx p1) X.env; standAt p2.atName; let (f, first) ← holding [ov] (getMethod ov "__init__" pl); callWith pos f first (backTo pos (starEach (e :: es) X.env)) (backToKw pos (keywordEach [] X.env))) := by rfl)
    (he : starEach (e :: es) X.env = (false, eval e X.env) :: starEach es X.env := by rfl) (hpl : (backTo pos (starEach es X.env)).any (·.1) = false := by rfl) :
    PE X (.Call (.Attribute (.Name bx p1) "__init__" p2) (e :: es) [] pos) (tBaseI X.K C B newId initId bmB ta) := by
  refine ⟨fun pins s σ H Q I h => PySem.W.methodCall_KW (ld_glob I hg hm ?_ hdb) hc⟩
  refine PySem.W.method_cls I.kIn T.ga (PySem.W.cls_value I.kIn T.rd T.vi T.hi ?_)
  show wpAny _ _ (callWith pos (Value.builtin initId) [] (backTo pos (starEach (e :: es) X.env)) []) _ _ _
  refine callWith_method1 (thn (ha.run pos pins _ σ H _ (I.tok _) h) fun us s1 z => ?_) he hpl
  obtain ⟨vs, H1, I1, r1, a, ws, ev, hl, O, ea, q⟩ := z
  subst ev
  cases r1 with
  | @cons _ u0 _ ur ra rw' =>
    have e0 : u0 = Value.ref a := ra
    subst e0
    have le : ur.length ≤ sizeLine := by
      have := Paired.length rw'
      rw [sizeLine_eq]
      omega
    exact base_init O I1 ea le fun s2 J => ⟨.non, H1, J, rfl, q⟩
/-- the heap with a new exception of the class at C, its args behind it -/
abbrev hNew (h : Heap) (us : List Value) (C : Addr) : Heap := (h.push (PySem.W.kdv_tup us)).push (PySem.HandSPX.excO C h.objs.size)
abbrev aNew (h : Heap) : Addr := h.objs.size + 1
theorem hNew_old {h : Heap} {us : List Value} {C : Addr} : ∀ b o, h.get? b = some o → (hNew h us C).get? b = some o := fun _ _ e => (Heap.get?_push_of_some _ e |> Heap.get?_push_of_some _)
theorem hNew_at {h : Heap} {us : List Value} {C : Addr} : (hNew h us C).get? (aNew h) = some (PySem.HandSPX.excO C h.objs.size) := by heap_get
/-- C(e, ..): such an exception is made, its own __init__ keeping sp -/
theorem pmk_any {X : Cx} {e : Expr} {es : List Expr} {ta : TA} {p pos : Pos} {CX : CXT} {x : Str} {C fI : Addr} {k : Nat} {fd : FuncData} {ps : List Str} {sp : Sp} {ds : List Value} {dvs : List V} {B newId initId : String} {bmB : List Value} (T : OexG X.K C B newId initId bmB)
    (iC : PySem.W.findIn X.K (.ref C) "__init__" = some (some (.ref fI))) (tI : PySem.W.typeIn X.K (.ref fI) = some (.type "function")) (F1 : FnOk X.prog X.w X.K X.mg X.base CX k fI fd ps sp) (hr : Room (k + 1) X.A) (hb : Binds X.K fd ps ds) (hd : Vals dvs ds)
    (hx : Passes CX X (fun _ _ _ => False)) (hg : Gl X x) (hm : X.mg x = some (.ref C)) (ha : PA X (e :: es) ta) (hdb : (x == ("__debug__" : Str)) = false := by decide)
    (he : starEach (e :: es) X.env = (false, eval e X.env) :: starEach es X.env := by rfl) (hpl : (backTo pos (starEach es X.env)).any (·.1) = false := by rfl) : PMk X (.Call (.Name x p) (e :: es) [] pos) (tMkO C sp dvs ta) := by
  intro pins s σ H Q I h
  obtain ⟨nm, q, N, bs, bm, sn, sub, ab, col, dd, k0, k1, k2, k3, k5, lk, hT, _⟩ := T.cls
  refine wpAny_Call_Name_kw (ld_glob I hg hm ?_ hdb) |> id
  refine PySem.W.callWith_K (h₀ := X.base) I.ok.mod.kin T.kC (thn (ha.run pos pins s σ H _ I h) fun us s1 z => ?_) he hpl
  obtain ⟨vs, H1, I1, rv0, hz, q1⟩ := z
  refine ⟨I1.kIn, (?_ : wpAny _ _ (call (.ref C) us) _ _ _)⟩
  obtain ⟨hp, g0, d0, u0, o0⟩ := s1
  have up1 : hp.objs.size ≤ aNew hp := Nat.le_succ _
  have free1 : H1 (aNew hp) = none := I1.hok.fresh up1
  have want := q1 (aNew hp) free1
  have I2 : Inv X pins σ (upd H1 (aNew hp) (exo (aNew hp) C none)) ⟨hNew hp us C, g0, d0, u0, o0⟩ := I1.laid (t' := u0) (o := exo (aNew hp) C none) hNew_old up1 (exo_ok hNew_at)
  have rel2 : Vals (.ref (aNew hp) :: (vs ++ dvs)) (.ref (aNew hp) :: (us ++ ds)) := .cons rfl (rv0.append hd)
  have len2 : (Value.ref (aNew hp) :: us ++ ds).length = ps.length := (rel2.length.symm).trans (F1.len _ _ _ _ want)
  have lu : us.length ≤ sizeLine := by
    have := Paired.length rv0
    rw [sizeLine_eq]
    omega
  refine wpAny_call (PySem.HandSPX.call_own T.bf hT (I1.kIn _ _ lk) (PySem.W.looks_findIn I1.kIn iC) (fun self => PySem.W.bind_fn I1.kIn self tI) lu (codeAny_mono (F1.run _ X.stack _ _ ⟨.ref (aNew hp) :: us, []⟩ (.ref (aNew hp) :: (us ++ ds)) _ _ (fun _ _ _ => False)
    (hr.make C us []) (I2.env0.make C us []) (hb _ (.ref (aNew hp) :: us) I2.kIn len2) rel2 want) fun r s2 back => ?_))
  match r, back with
  | .error er, back => exact hx pins σ _ _ er s2 I2 back
  | .ok (.ret _), ⟨v, H2, os2, bare2, un2, hok2, rv, ev, d, fs, ea, ed, hd1, q2⟩ =>
    subst ev
    obtain ⟨h2, g2, d2, t2, os'⟩ := s2
    exact ⟨rv, mk_end (raises_own T.exC T.tyC) I1 up1 hNew_old un2 hok2 os2 bare2 ea ed hd1 q2⟩
  | .ok .next, back => exact back.elim
  | .ok .brk, back => exact back.elim
  | .ok .cont, back => exact back.elim
end Rv
/-! A test of the written part: is the class at C such an exception class. -/
namespace Rv
open PySem PySem.Spec PyProof.Rows L2
theorem tl_ok {bmB : List Value} (h0 : Mok bmB) : ∀ l : List Value, tlB bmB l = true → Mok l ∧ ∀ Y : String, l.contains (.type Y) = bmB.contains (.type Y)
  | .ref c :: r, e => by
    obtain ⟨z1, z2⟩ := tl_ok h0 r (show tlB bmB r = true from e)
    refine ⟨mok_ref z1, fun Y => ?_⟩
    rw [List.contains_cons, z2]
    rfl
  | [], e => by
    have z : [] = bmB := of_decide_eq_true e
    subst z
    exact ⟨h0, fun _ => rfl⟩
  | .none :: r, e => by have z := of_decide_eq_true (show decide (_ = bmB) = true from e); subst z; exact ⟨h0, fun _ => rfl⟩
  | .ellipsis :: r, e => by have z := of_decide_eq_true (show decide (_ = bmB) = true from e); subst z; exact ⟨h0, fun _ => rfl⟩
  | .notImplemented :: r, e => by have z := of_decide_eq_true (show decide (_ = bmB) = true from e); subst z; exact ⟨h0, fun _ => rfl⟩
  | .bool _ :: r, e => by have z := of_decide_eq_true (show decide (_ = bmB) = true from e); subst z; exact ⟨h0, fun _ => rfl⟩
  | .int _ _ :: r, e => by have z := of_decide_eq_true (show decide (_ = bmB) = true from e); subst z; exact ⟨h0, fun _ => rfl⟩
  | .float _ _ :: r, e => by have z := of_decide_eq_true (show decide (_ = bmB) = true from e); subst z; exact ⟨h0, fun _ => rfl⟩
  | .str _ _ :: r, e => by have z := of_decide_eq_true (show decide (_ = bmB) = true from e); subst z; exact ⟨h0, fun _ => rfl⟩
  | .bytes _ _ :: r, e => by have z := of_decide_eq_true (show decide (_ = bmB) = true from e); subst z; exact ⟨h0, fun _ => rfl⟩
  | .type _ :: r, e => by have z := of_decide_eq_true (show decide (_ = bmB) = true from e); subst z; exact ⟨h0, fun _ => rfl⟩
  | .builtin _ :: r, e => by have z := of_decide_eq_true (show decide (_ = bmB) = true from e); subst z; exact ⟨h0, fun _ => rfl⟩
theorem cx_ok {K : PySem.W.Frag} {C : Addr} {newId : String} {bmB : List Value} (h0 : Mok bmB) (h : cxB K C newId bmB = true) :
    ∃ nm q N bs bm sn sub ab col dd k0 k1 k2 k3 k5, K.lookup C = some (excClassObj nm q C N bs bm true sn sub ab col dd k0 k1 k2 k3 k5 newId) ∧ (∀ Y : String, bm.contains (.type Y) = bmB.contains (.type Y)) ∧ Mok (.ref C :: bm) := by
  unfold cxB at h
  split at h
  · rename_i m dd z sl lk
    obtain ⟨e1, h⟩ := He.ba h
    have e1 := of_decide_eq_true e1
    subst e1
    split at h
    · rename_i D r j0 j1 j2 j3 n j5 hm hs
      obtain ⟨_, h⟩ := He.ba h
      obtain ⟨e2, h⟩ := He.ba h
      obtain ⟨e3, h⟩ := He.ba h
      obtain ⟨e4, h⟩ := He.ba h
      obtain ⟨e5, e6⟩ := He.ba h
      have e2 := of_decide_eq_true e2
      have e3 := of_decide_eq_true e3
      subst e2 e3
      obtain ⟨w1, w2, w3, w4, w5, w6, w7, w8, w9, w10, w11⟩ := z
      dsimp only at hm e4 e5
      have e4 : w11 = false := by
        cases w11 with
        | false => rfl
        | true => cases e4
      subst hm e4 e5
      have e7 : sl = #[j0, j1, j2, j3, some (.builtin n), j5] := by
        obtain ⟨l⟩ := sl
        simp only at hs
        rw [hs]
      subst e7
      obtain ⟨y1, y2⟩ := tl_ok h0 r e6
      exact ⟨_, _, _, _, r, _, _, _, _, _, _, _, _, _, _, lk, y2, mok_ref y1⟩
    · cases h
  · cases h
theorem ox_ok {K : PySem.W.Frag} {x : Str} {B newId initId : String} {bmB : List Value} (bf : ExcBaseFacts B newId initId bmB) (h0 : Mok bmB) (h : oxB K x newId bmB = true) : OexG K (He.ga K x) B newId initId bmB := by
  obtain ⟨h1, h⟩ := He.ba h
  obtain ⟨h2, h⟩ := He.ba h
  obtain ⟨h3, h⟩ := He.ba h
  obtain ⟨h4, h5⟩ := He.ba h
  exact ⟨bf, cx_ok h0 h1, He.eqO_ok h2, of_decide_eq_true h3, of_decide_eq_true h4, h5⟩
theorem bg_ok {K : PySem.W.Frag} {x : Str} {i : String} (h : bgB K x i = true) : BaseG K (He.ga K x) i := by
  obtain ⟨h1, h⟩ := He.ba h
  obtain ⟨h2, h⟩ := He.ba h
  obtain ⟨h3, h4⟩ := He.ba h
  refine ⟨h1, He.eqO_ok h2, ?_, h3⟩
  cases e : PySem.W.findCls K (.ref (He.ga K x)) (.type "type") "__init__" with
  | none =>
    rw [e] at h4
    cases h4
  | some f =>
    rw [e] at h4
    cases f with
    | val v =>
      cases v with
      | builtin n =>
        have z : n = i := of_decide_eq_true h4
        rw [z]
      | _ => cases h4
    | _ => cases h4
end Rv
namespace Rv
open PySem PySem.Spec PyProof.Rows L2
/-! exceptions of own classes: raised in defs, caught in the law -/
theorem passE0 {X : Cx} : Passes (L2.CX X.prog X.w) X E0 := fun _ _ _ _ _ _ _ c => by
  obtain ⟨_, _, _, _, _, _, _, _, _, _, _, _, z⟩ := c
  exact z.elim
theorem takesF {X : Cx} : Takes X fun _ _ _ _ => False := fun u s' x => by
  obtain ⟨_, _, _, _, _, _, _, _, _, _, _, _, _, _, _, _, w⟩ := x
  exact w.elim
/-- raise e -/
def tRaise (t : L2.St → Hp → XK → Prop) (E : XK) : TS := fun _ σ H => t σ H fun cls d H' => E cls d H'
theorem ps_raiseE {X : Cx} {E : XK} {e : Expr} {t : L2.St → Hp → XK → Prop} {pos : Pos} (he : PMk X e t) (tk : Takes X fun cls d _ H => E cls d H) (hc : X.calm = true := by rfl) : PS X (.Raise (some e) none pos) (tRaise t E) := ps_raise hc tk he
/-- an own exception class with its __init__ -/
structure CalX (P : Program) (w : World) (K : PySem.W.Frag) (mg : Str → Option Value) (base : Heap) (CX : CXT) (k : Nat) (x : Str) (C : Addr) (ps : List Str) (sp : Sp) (dvs : List V) (B newId initId : String) (bmB : List Value) : Prop where
  ex : ∃ f fd ds, FnOk P w K mg base CX k f fd ps sp ∧ OexG K C B newId initId bmB ∧ PySem.W.findIn K (.ref C) "__init__" = some (some (.ref f)) ∧ PySem.W.typeIn K (.ref f) = some (.type "function") ∧ mg x = some (.ref C) ∧ Binds K fd ps ds ∧ Vals dvs ds
theorem pmk_cal {X : Cx} {CX : CXT} {k : Nat} {x : Str} {C : Addr} {ps : List Str} {sp : Sp} {dvs : List V} {B newId initId : String} {bmB : List Value} {e : Expr} {es : List Expr} {ta : TA} {p pos : Pos} (c : CalX X.prog X.w X.K X.mg X.base CX k x C ps sp dvs B newId initId bmB) (hr : Room (k + 1) X.A) (hx : Passes CX X (fun _ _ _ => False)) (hg : Gl X x) (ha : PA X (e :: es) ta)
    (hdb : (x == ("__debug__" : Str)) = false := by decide) (he : starEach (e :: es) X.env = (false, eval e X.env) :: starEach es X.env := by rfl) (hpl : (backTo pos (starEach es X.env)).any (·.1) = false := by rfl) : PMk X (.Call (.Name x p) (e :: es) [] pos) (tMkO C sp dvs ta) := by
  obtain ⟨f, fd, ds, F, T, iC, tI, hm, hb, hd⟩ := c.ex
  exact pmk_any T iC tI F hr hb hd hx hg hm ha hdb he hpl
/-! .. at the state in which the call stands -/
section
variable {X : Cx} {CX : CXT} {k : Nat} {f C : Addr} {fd : FuncData} {ps : List Str} {sp : Sp} {E : L2.St → XK} {x m : Str} {p pos apos : Pos} {e o : Expr} {es : List Expr} {ta tb : TE} {t : TA} {dvs : List V} {ds : List Value}
theorem run_fnD {pins : List (Addr × Obj)} {σ : L2.St} {H : Hp} {s : Shared} {Q : VK} {us : List Value} {vs : List V} (F : FnOk X.prog X.w X.K X.mg X.base CX k f fd ps sp) (hr : Room k X.A) (hb : Binds X.K fd ps ds) (hd : Vals dvs ds) (hx : PassesAt CX X σ (E σ))
    (I : Inv X pins σ H s) (r : Vals vs us) (h : sp (vs ++ dvs) H Q (E σ)) : wpAny (model X.prog X.w) X.A (call (.ref f) us) (EP X pins σ Q) X.xe s := by
  have r2 : Vals (vs ++ dvs) (us ++ ds) := r.append hd
  have hl : (us ++ ds).length = ps.length := by rw [← r2.length]; exact F.len _ _ _ _ h
  refine wpAny_call (codeAny_mono (F.run X.A X.stack s H ⟨us, []⟩ (us ++ ds) (vs ++ dvs) Q (E σ) hr I.env0 (hb s us I.kIn hl) r2 h) fun r s' hq => ?_)
  cases r with
  | error e => exact hx pins H s e s' I hq
  | ok fl =>
    cases fl with
    | ret u => exact I.after hq
    | next => exact False.elim hq
    | brk => exact False.elim hq
    | cont => exact False.elim hq
def tMethD (C : Addr) (m : Str) (sp : Sp) (dvs : List V) (E : L2.St → XK) (ta : TE) (t : TA) : TE := fun σ H Q => ta σ H fun x H1 => ∃ a dx fs, x = .ref a ∧ H1 a = some (.ins C dx fs) ∧ fs.lookup m = none ∧ t σ H1 fun vs H2 => sp (x :: (vs ++ dvs)) H2 Q (E σ)
theorem pe_caltD {pl : Sem Bool} (c : CalT X.prog X.w X.K X.mg X.base CX k C m ps sp) (hr : Room k X.A) (hx : ∀ σ, PassesAt CX X σ (E σ)) (ho : PE X o ta) (ha : PA X (e :: es) t)
    (he : starEach (e :: es) X.env = (false, eval e X.env) :: starEach es X.env := by rfl) (hpl : (backTo pos (starEach es X.env)).any (·.1) = false := by rfl)
    (ht : eval (.Call (.Attribute o m apos) (e :: es) [] pos) X.env = (do let ov ← eval o X.env; standAt apos.atName; let (f, first) ← holding [ov] (getMethod ov m pl); callWith pos f first (backTo pos (starEach (e :: es) X.env)) (backToKw pos (keywordEach [] X.env))) := by rfl) :
    PE X (.Call (.Attribute o m apos) (e :: es) [] pos) (tMethD C m sp [] E ta t) := by
  obtain ⟨f, fd, F, cl, hm, hb⟩ := c.ex
  refine ⟨fun pins s σ H Q I h => ?_⟩
  refine PySem.W.methodCall_KW (pl := pl) (thn (ho.run pins s σ H _ I h) fun u s1 ⟨x, H1, I1, rx, a, dx, fs, ex, ea, l, q⟩ => ?_) ht
  subst ex
  obtain rfl : u = Value.ref a := rx
  refine getmeth_ok I1 ea cl hm l ?_
  refine PySem.W.callWith_K (first := [.ref a]) (h₀ := X.base) I.ok.mod.kin hm.kp (thn (ha.run pos pins s1 σ H1 _ I1 q) fun us s2 ⟨vs, H2, I2, r, q2⟩ => ⟨I2.kIn, ?_⟩) he hpl
  exact run_fnD (us := .ref a :: us) (vs := .ref a :: vs) F hr hb .nil (hx σ) I2 (.cons rfl r) q2
end
/-- try .. except c as n -/
def tTryAs (K : PySem.W.Frag) (c : Value) (i : Nat) (tb : WX → TS) (ts : Addr → Value → Option Addr → TS) (Wout : WX) : TS := fun D σ H => tb (wAs K c i ts Wout D) D σ H
/-- an own exception's __init__(self, v): its one field is set -/
def spExc (K : PySem.W.Frag) (C : Addr) (B newId initId : String) (bmB : List Value) (f : Str) : Sp := fun vs H Q _ => ∃ p v, vs = [.ref p, v] ∧ OexG K C B newId initId bmB ∧ PySem.W.findIn K (.ref C) f = some none ∧ H p = some (exo p C none) ∧
  ∀ dx, H dx = none → dx ≠ p → Q .non (upd (upd H dx (exd dx [(f, v)])) p (exo p C (some dx)))
/-- what a new exception brings -/
theorem exc_new {K : PySem.W.Frag} {C : Addr} {B newId initId : String} {bmB : List Value} {f : Str} {H : Hp} {XQ : XK} {v : V} (T : OexG K C B newId initId bmB) (no : PySem.W.findIn K (.ref C) f = some none)
    (k : ∀ d H', H d = none → Same H H' → H' d = some (.xd [(f, v)]) → XQ (.ref C) (some d) H') :
    [v].length ≤ 1000 ∧ ∀ a, H a = none → spExc K C B newId initId bmB f (.ref a :: ([v] ++ [])) (upd H a (exo a C none))
      (fun v H2 => v = .non ∧ ∃ (d : Addr) (fs : List (Str × V)), H2 a = some (exo a C (some d)) ∧ H2 d = some (exd d fs) ∧ H d = none ∧ XQ (.ref C) (some d) (upd (del H2 a) d (.xd fs))) (fun _ _ _ => False) := by
  refine ⟨by show 1 ≤ 1000; decide, fun a na => ⟨a, v, rfl, T, no, upd_same, fun dx nd ne => ⟨rfl, dx, [(f, v)], upd_same, ?_, ?_, ?_⟩⟩⟩
  · rw [upd_ne ne, upd_same]
  · rw [upd_ne ne] at nd
    exact nd
  · rw [upd_ne ne] at nd
    refine k dx _ nd (fun b o hb => ?_) upd_same
    have n1 : b ≠ dx := ne_of_none hb nd
    have n2 : b ≠ a := ne_of_none hb na
    rw [upd_ne n1]
    show del (upd (upd (upd H a _) dx _) a _) a b = some o
    unfold del
    rw [if_neg n2, upd_ne n2, upd_ne n1, upd_ne n2]
    exact hb
theorem ec_of {K : PySem.W.Frag} {x : Str} (h : ecB K x = true) : ExcC K (He.ga K x) := by
  obtain ⟨h1, h⟩ := He.ba h
  obtain ⟨h2, h⟩ := He.ba h
  obtain ⟨h3, h⟩ := He.ba h
  obtain ⟨h4, h⟩ := He.ba h
  obtain ⟨h5, h⟩ := He.ba h
  obtain ⟨h6, h⟩ := He.ba h
  obtain ⟨h7, h8⟩ := He.ba h
  exact ⟨He.eqO_ok h1, He.eqO_ok h2, of_decide_eq_true h3, h4, He.eqO_ok h5, He.eqO_ok h6, of_decide_eq_true h7, of_decide_eq_true h8⟩
theorem p_exc {K : PySem.W.Frag} {C : Addr} {B newId initId : String} {bmB : List Value} {f : Str} {vs : List V} {H : Hp} {Q : VK} {E : XK} (m : Str) (h : spExc K C B newId initId bmB f vs H Q E) {N : List Str} (hN : ∀ p v, start N [.ref p, v] = [some (V.ref p), some v]) :
    tSeq (tDrop (tBaseI K C B newId initId bmB (tCons (tVar 0) (tCons (tC (.str m)) tNil)))) (tFst K C B newId initId bmB f (tVar 0) (tVar 1)) { nx := fun _ H' => Q .non H', rt := Q } (start N vs) H := by
  obtain ⟨p, v, rfl, T, no, hp, k⟩ := h
  rw [hN]
  refine w_seqD ?_
  refine ⟨_, rfl, ?_⟩
  refine ⟨p, [.str m], rfl, by show 1 ≤ 1000; decide, T, hp, ?_⟩
  refine ⟨_, rfl, ?_⟩
  refine ⟨_, rfl, ?_⟩
  exact ⟨p, rfl, T, no, hp, fun dx nd ne => k dx nd ne⟩
theorem w_raise {t : L2.St → Hp → XK → Prop} {E : XK} {D : Ends} {σ : L2.St} {H : Hp} (q : t σ H fun cls d H' => E cls d H') : tRaise t E D σ H := q
theorem w_mkO {C : Addr} {sp : Sp} {dvs : List V} {ta : TA} {σ : L2.St} {H : Hp} {Q : XK} (q : ta σ H fun vs H1 => vs.length ≤ 1000 ∧ ∀ a, H1 a = none → sp (.ref a :: (vs ++ dvs)) (upd H1 a (exo a C none))
  (fun v H2 => v = .non ∧ ∃ (d : Addr) (fs : List (Str × V)), H2 a = some (exo a C (some d)) ∧ H2 d = some (exd d fs) ∧ H1 d = none ∧ Q (.ref C) (some d) (upd (del H2 a) d (.xd fs))) (fun _ _ _ => False)) : tMkO C sp dvs ta σ H Q := q
end Rv
namespace Rv
open PySem PySem.Spec PyProof.Rows L2
end Rv
/-! try with several clauses 'except C as n' of one name n. -/
namespace Rv
open PySem PySem.Spec PyProof.Rows L2
end Rv
/-! Own defs that are called while an exception is handled (they raise nothing themselves), and repr there. -/
namespace Rv
open PySem PySem.Spec PyProof.Rows L2 L2H
/-- the context of such a def's body -/
def cxC (P : Program) (w : World) (K : PySem.W.Frag) (mg : Str → Option Value) (base : Heap) (N : List Str) (qual : Str) (scope : Scope) (f : Addr) (cd : Value) (A : Around) (outer : List Env) (s : Shared) (H : Hp) (E : XK) : Cx :=
  { cxOf CX0 P w K mg base N qual scope f cd A outer s H E with calm := false }
/-- what such a def promises -/
structure FnC (P : Program) (w : World) (K : PySem.W.Frag) (mg : Str → Option Value) (base : Heap) (k : Nat) (f : Addr) (fd : FuncData) (ps : List Str) (sp : Sp) : Prop where
  len : ∀ vs H Q E, sp vs H Q E → vs.length = ps.length
  run : ∀ (A : Around) (outer : List Env) (s : Shared) (H : Hp) (args : Args) (us : List Value) (vs : List V) (Q : VK) (E : XK), RoomH k A → Env0 P w K mg base A outer s H → BindsTo s fd args (ps.zip us) → Vals vs us → sp vs H Q E →
    codeAny (model P w) A (.call (.ref f) args) (CR CX0 outer P w H s Q E) s
theorem Env0.unmark {P : Program} {w : World} {K : PySem.W.Frag} {mg : Str → Option Value} {base : Heap} {A : Around} {outer : List Env} {s : Shared} {H : Hp} (e : Env0 P w K mg base A outer s H) : Env0 P w K mg base { A with handled := none } outer s H := by
  constructor
  · exact e.frames
  all_goals first
    | exact e.mod
    | exact e.bs
    | exact e.bsz
    | exact e.bare
    | exact e.hok
    | exact e.funs
    | exact e.frf
theorem FunD.okC {P : Program} {w : World} {K : PySem.W.Frag} {mg : Str → Option Value} {base : Heap} {k : Nat} {f : Addr} {fd : FuncData} {N ps : List Str} {sp : Sp} {x qual : Str} {params : Arguments} {body : List Stmt} {scope : Scope} {dvs : List V} {kws : List (Str × V)}
    (F : FunD K x qual params body scope dvs kws f fd) (S : FnScope N ps scope) (len : ∀ vs H Q E, sp vs H Q E → vs.length = ps.length)
    (hbody : ∀ (cdv : Value) (A : Around) (outer : List Env) (s : Shared) (H : Hp) (vs : List V) (Q : VK) (E : XK), sp vs H Q E →
      ∃ t, PSs (cxC P w K mg base N qual scope f cdv A outer s H E) body t ∧ t { nx := fun _ H' => Q .non H', rt := Q } (start N vs) H) : FnC P w K mg base (k + 1) f fd ps sp := by
  obtain ⟨oc, od, dV, kV, doc, pm, an, cdv, ct, osl, rfl, lk, hcd, _, _⟩ := F.ex
  refine ⟨len, fun A outer s H args us vs Q E hr e0 hb r hsp => ?_⟩
  have hl := len _ _ _ _ hsp
  have KX : K.In s.heap := e0.mod.kin.keeps fun b o e => (e0.bs b o e).1
  have lim : s.heap.NoLimit := e0.mod.nolimit.keeps fun b o e => (e0.bs b o e).1
  refine codeAny_call_function hr.depth (KX _ _ lk) rfl S.co S.gen rfl (PySem.W.codeRec_of KX hcd) (hb _ _ _ _ (wpAny_newFunctionEnv_cells S.kind ?_ fun env he s1 x1 => ?_))
  · rintro ⟨n, v⟩ hy
    rcases S.par n (List.of_mem_zip hy).1 with q | q
    · exact .inl q
    · exact .inr ⟨q, PySem.W.cellsFrom_some _ _ _ (.inl q)⟩
  subst he
  refine ⟨lim.keeps x1.toInCall.keep, codeAny_func ?_⟩
  obtain ⟨t, ht, hq⟩ := hbody cdv A outer s H vs Q E hsp
  have I0 := inv_start (CX := CX0) (E := E) (A := { A with handled := none }) S rfl (Env0.unmark e0) hl r x1
  have I : Inv (cxC P w K mg base N qual scope f cdv A outer s H E) [] (start N vs) H s1 :=
    ⟨⟨I0.ok.mod, I0.ok.kind, I0.ok.glob, I0.ok.blt, I0.ok.above, I0.ok.inj, I0.ok.has, I0.ok.cab, (fun z => Bool.noConfusion (show false = true from z)), Around.frames_deeper e0.frames, I0.ok.stk, I0.ok.exf, I0.ok.bs, I0.ok.bsz, I0.ok.noex, I0.ok.exfs, I0.ok.funs, I0.ok.frf⟩,
      I0.os, I0.bare, I0.base, I0.loc, I0.cell, I0.free, I0.freeC, I0.pin, I0.hok, I0.len⟩
  refine wpAny_mono (ht.run [] s1 (start N vs) H _ I hq) (fun fl s' hs => ?_) fun e s' hs => hs
  cases fl with
  | ret u =>
    obtain ⟨v, σ', H', J, rv, q⟩ := hs
    exact ⟨v, H', J.os, J.bare, J.base, J.hok, rv, q⟩
  | next =>
    obtain ⟨σ', H', J, q⟩ := hs
    exact ⟨.non, H', J.os, J.bare, J.base, J.hok, rfl, q⟩
  | brk =>
    obtain ⟨_, _, _, q⟩ := hs
    exact q.elim
  | cont =>
    obtain ⟨_, _, _, q⟩ := hs
    exact q.elim
/-- the class at C has a def of one parameter under the name nm, also told of callers that handle an exception -/
structure CalUC (P : Program) (w : World) (K : PySem.W.Frag) (mg : Str → Option Value) (base : Heap) (k : Nat) (C : Addr) (nm : Str) (sp : Sp) : Prop where
  ex : ∃ f fd, FnC P w K mg base k f fd ["self"] sp ∧ PySem.W.findIn K (.ref C) nm = some (some (.ref f)) ∧ PySem.W.isFn K (.ref f) = true ∧ Binds K fd ["self"] []
theorem roomH_in1 {k : Nat} {A : Around} (r : RoomH (k + 1) A) : RoomH k A.in1 :=
  ⟨by have := r.dp; show A.depth + 3 * k + 5 < _; omega, by have := r.un; show A.units + 1 + 16 * k + 200 < _; omega⟩
/-- repr of a value of any kind: built-in data, or an instance of the class at C -/
def cReprA (K : PySem.W.Frag) (C : Addr) (sp : Sp) : List V → Hp → VK → Prop := fun xs H Q => ∃ v, xs = [v] ∧
  ((∃ d, Dp K H v d ∧ d.showable = true ∧ d.hasDict = false ∧ d.depth ≤ 10 ∧ d.shown.length ≤ sizeLine ∧ Q (.str d.shown) H) ∨
   ∃ a dx fs, v = .ref a ∧ H a = some (.ins C dx fs) ∧ sp [.ref a] H (fun z H' => ∃ y, z = .str y ∧ Q (.str y) H') E0)
theorem call_reprA {X : Cx} {k : Nat} {C : Addr} {sp : Sp} (c : CalUC X.prog X.w X.K X.mg X.base k C "__repr__" sp) (hg : X.A.guards = some []) (hr : RoomH (k + 1) X.A) : CallR X (.builtin "repr") (cReprA X.K C sp) := by
  intro pins s σ H xs us Q I r h
  obtain ⟨v, rfl, h⟩ := h
  obtain ⟨u, rfl, ru⟩ := vals1 r
  have hu := hr.un
  rcases h with ⟨d, hd, sh, nd, dp, sz, q⟩ | ⟨a, dx, fs, rfl, ha, q⟩
  · have go : ∀ {b : Addr}, Dp X.K H (.ref b) d → wpAny (model X.prog X.w) X.A (call (.builtin "repr") [.ref b]) (EP X pins σ Q) X.xe s := fun {b} hb => by
      obtain ⟨as, rd⟩ := Dp.reads I d (.ref b) (.ref b) hb rfl
      exact PySem.repr_of_reads' rd sh (fun e => by rw [nd] at e; cases e) hg (by omega) (fun b o e => e) (fun h' u tk hk => ⟨.str d.shown, H, I.kept hk, ⟨_, rfl⟩, q⟩) sz
    cases hd with
    | non =>
      cases (show u = Value.none from ru)
      exact PySem.P.repr_of_none ⟨.str _, H, I.tok _, ⟨_, rfl⟩, q⟩
    | bl b =>
      cases (show u = Value.bool b from ru)
      refine PySem.P.repr_of_bool ⟨.str _, H, I.tok _, ⟨_, rfl⟩, ?_⟩
      cases b <;> exact q
    | int i =>
      obtain ⟨t, rfl⟩ := (show ∃ t, u = Value.int i t from ru)
      refine PySem.P.repr_of_int (by simpa [PyData.showable] using sh) ⟨.str _, H, I.tok _, ⟨_, rfl⟩, q⟩
    | str x =>
      obtain ⟨t, rfl⟩ := (show ∃ t, u = Value.str x t from ru)
      exact PySem.P.repr_of_str ⟨.str _, H, I.tok _, ⟨_, rfl⟩, q⟩ sz
    | lst h1 h2 =>
      cases (show u = Value.ref _ from ru)
      exact go (.lst h1 h2)
    | tup h1 h2 =>
      cases (show u = Value.ref _ from ru)
      exact go (.tup h1 h2)
  · cases (show u = Value.ref a from ru)
    obtain ⟨f, fd, F, hs, hf, hb⟩ := c.ex
    obtain ⟨mA, J, _⟩ := ins_get I.hok ha
    obtain ⟨od, J, _⟩ := J.look
    obtain ⟨m, hF⟩ := I.fr
    have hl := F.len _ _ _ _ q
    have r2 : Vals [V.ref a] [Value.ref a] := .cons rfl .nil
    refine PySem.W.repr_K (by have := (roomH_in1 hr).un; omega) hF I.ok.mod.kin J hs hf ?_
    refine wpAny_call (codeAny_mono (F.run X.A.in1 X.stack s H ⟨[.ref a], []⟩ [.ref a] [.ref a] _ E0 (roomH_in1 hr) I.env0.in1 (by
      have := hb s [.ref a] I.kIn (by simpa using hl)
      simpa using this) r2 q) fun r s' hq => ?_)
    cases r with
    | error e => exact hq.elim
    | ok fl =>
      cases fl with
      | ret w =>
        obtain ⟨z, H', I', rz, y, rfl, qz⟩ := I.after hq
        obtain ⟨t, rfl⟩ := (show ∃ t, w = Value.str y t from rz)
        exact ⟨.str y, H', I', ⟨t, rfl⟩, qz⟩
      | next => exact False.elim hq
      | brk => exact False.elim hq
      | cont => exact False.elim hq
end Rv
namespace Rv
open PySem PySem.Spec PyProof.Rows L2
theorem str_empty (d : Str) : Str.empty ++ d = d := by
  cases d
  show (⟨#[] ++ _⟩ : Str) = _
  simp
theorem str_len (x y : Str) : (x ++ y).length = x.length + y.length := by
  show (x.cps ++ y.cps).size = _
  rw [Array.size_append]
  rfl
theorem len_p2 : (", " : Str).length = 2 := by decide +kernel
theorem len_p3 : (")" : Str).length = 1 := by decide +kernel
/-- all that lies at H lies at H', but for a list at f -/
def Kx (f : Addr) (H H' : Hp) : Prop := ∀ b o, H b = some o → ((∀ xs, o ≠ .lst xs) ∨ b ≠ f) → H' b = some o
theorem Kx.refl (f : Addr) (H : Hp) : Kx f H H := fun _ _ h _ => h
theorem st_is {s : TS} {D : Ends} {σ : L2.St} (σ' : L2.St) {H : Hp} (e : σ = σ') (q : s D σ' H) : s D σ H := by
  subst e
  exact q
structure OdC (K : PySem.W.Frag) (C : Addr) : Prop where
  ki : ∀ T, T ∈ ["NoneType", "bool", "str", "list", "tuple", "dict"] → PySem.W.kitOne K (.type T) (.ref C) = some false
  nf : ∀ T, T ∈ ["NoneType", "bool", "str", "list", "tuple", "dict"] → PySem.W.notFirst K C (.type T) = true
theorem odc_of {K : PySem.W.Frag} {x : Str} (h : odB K x = true) : OdC K (He.ga K x) :=
  ⟨fun T hT => of_decide_eq_true (He.ba (List.all_eq_true.mp h T hT)).1, fun T hT => (He.ba (List.all_eq_true.mp h T hT)).2⟩
theorem w_forLn {K : PySem.W.Frag} {σ : L2.St} {H : Hp} {D : Ends} {tl : TE} {s1 : TS} {g : TG} (q : tl σ H fun x H1 => ∃ a, x = .ref a ∧ tFor (iAt K a) g s1 D σ H1) : tFor (iList K tl) g s1 D σ H := q
theorem w_forLa {K : PySem.W.Frag} {σ : L2.St} {H : Hp} {D : Ends} {s1 : TS} {g : TG} {a : Addr} {xs : List V} (hx : SqL K H a xs) (Pv : Nat → L2.St → Hp → Prop) (h0 : Pv 0 σ H) (hl : ∀ i σ' H', i ≤ xs.length → Pv i σ' H' → SqL K H' a xs)
    (hs : ∀ i x σ' H', xs[i]? = some x → Pv i σ' H' → g x σ' H' fun σ2 H2 => s1 { D with nx := Pv (i + 1), ct := Pv (i + 1), bk := D.nx } σ2 H2) (hd : ∀ σ' H', Pv xs.length σ' H' → D.nx σ' H') : tFor (iAt K a) g s1 D σ H :=
  ⟨⟨xs, hx⟩, for_list Pv h0 hl hs hd⟩
def OddR (H : Hp) (v : V) : Prop := v = .non ∨ (∃ b, v = .bl b) ∨ (∃ s, v = .str s) ∨ (∃ p xs, v = .ref p ∧ H p = some (.lst xs)) ∨ (∃ p xs, v = .ref p ∧ H p = some (.tup xs)) ∨ ∃ p kvs, v = .ref p ∧ H p = some (.dK kvs)
theorem OddR.same {H H' : Hp} {v : V} (h : OddR H v) (e : Same H H') : OddR H' v := by
  rcases h with h | h | h | ⟨p, xs, h1, h2⟩ | ⟨p, xs, h1, h2⟩ | ⟨p, xs, h1, h2⟩
  · exact .inl h
  · exact .inr (.inl h)
  · exact .inr (.inr (.inl h))
  · exact .inr (.inr (.inr (.inl ⟨p, xs, h1, e _ _ h2⟩)))
  · exact .inr (.inr (.inr (.inr (.inl ⟨p, xs, h1, e _ _ h2⟩))))
  · exact .inr (.inr (.inr (.inr (.inr ⟨p, xs, h1, e _ _ h2⟩))))
local macro_rules | `(tactic| walk_at "rv st") => `(tactic| first
  | with_reducible refine iteT ?_ | with_reducible refine iteF ?_ | with_reducible refine w_nx ?_ | with_reducible refine w_yes ?_ | with_reducible refine w_rt ?_ | with_reducible refine iteNT ?_ | with_reducible refine iteNF ?_ | with_reducible refine iteNRf ?_ | with_reducible refine iteRf ?_ | with_reducible refine w_seqA ?_ | with_reducible refine w_seqD ?_ | with_reducible refine w_seqP ?_ | with_reducible refine w_asg ?_ | with_reducible refine w_ret ?_ | with_reducible refine w_drop ?_ | with_reducible refine w_ifs ?_ | with_reducible refine w_next ?_ | with_reducible refine w_par ?_
  | with_reducible refine w_op ?_ | with_reducible refine w_un ?_ | ((with_reducible show tVar _ _ _ _); refine' w_var ?hv ?_; (case hv => exact rfl)) | with_reducible refine w_c ?_ | with_reducible refine w_test ?_ | with_reducible refine w_tB ?_
  | with_reducible refine w_bl ?_ | with_reducible refine w_I0 ?_ | with_reducible refine w_U ?_ | with_reducible refine w_eqI ?_ | with_reducible refine w_neI ?_
  | with_reducible refine w_cons ?_ | with_reducible refine w_nil ?_ | with_reducible refine w_gn ?_ | with_reducible refine w_gsub ?_ | with_reducible refine w_and ?_ | with_reducible refine w_or ?_ | with_reducible refine w_not ?_
  | with_reducible refine w_andV ?_ | with_reducible refine w_orV ?_ | with_reducible refine w_notV ?_ | with_reducible refine w_if ?_ | with_reducible refine w_cb ?_ | with_reducible refine w_call ?_ | with_reducible refine w_lst ?_ | with_reducible refine w_tup ?_
  | with_reducible refine w_sl ?_ | with_reducible refine w_noPart ?_ | with_reducible refine w_part ?_ | with_reducible refine w_ex1 ?_ | with_reducible refine w_exb ?_ | with_reducible refine w_intB ?_ | with_reducible refine w_intI ?_ | with_reducible refine w_abs ?_)
local macro_rules | `(tactic| walk_at "rv ix") => `(tactic| ((with_reducible show rIxL _ _ _ _ _); refine' w_ixL (sq_lst ?ha) ?hb ?_; (case ha => first | exact upd_same | assumption); (case hb => first | exact rfl | assumption)))
local macro_rules | `(tactic| walk_at "rv ar") => `(tactic| first
  | (refine' w_I ?hc ?_; (case hc => first | (show (0 : Int) < _; first | assumption | decide | omega) | exact pow_c (by decide) (by decide) (by first | decide | omega) (by first | decide | omega) | exact mul_r (by first | decide | omega) (by first | decide | omega) | exact mul_l (by first | decide | omega) (by first | decide | omega) | exact divw (by first | assumption | decide | omega) (by first | assumption | decide | omega))))
local macro_rules | `(tactic| walk_at "rv go") => `(tactic| repeat first | walk_at "rv st" | walk_at "rv ix" | ((with_reducible show rI _ _ _ _ _ _); walk_at "rv ar"))
theorem w_meth {σ : L2.St} {H : Hp} {Q : VK} {C : Addr} {m : Str} {sp : Sp} {E : XK} {ta : TE} {tr : TA} (q : ta σ H fun x H1 => ∃ a dx fs, x = .ref a ∧ H1 a = some (.ins C dx fs) ∧ fs.lookup m = none ∧ tr σ H1 fun vs H2 => sp (x :: (vs ++ [])) H2 Q E) : tMeth C m sp [] E ta tr σ H Q := q
end Rv
namespace Rv
open PySem PySem.Spec PyProof.Rows L2
local macro_rules | `(tactic| walk_at "rv st") => `(tactic| first
  | with_reducible refine iteT ?_ | with_reducible refine iteF ?_ | with_reducible refine w_nx ?_ | with_reducible refine w_yes ?_ | with_reducible refine w_rt ?_ | with_reducible refine iteNT ?_ | with_reducible refine iteNF ?_ | with_reducible refine iteNRf ?_ | with_reducible refine iteRf ?_ | with_reducible refine w_seqA ?_ | with_reducible refine w_seqD ?_ | with_reducible refine w_seqP ?_ | with_reducible refine w_asg ?_ | with_reducible refine w_ret ?_ | with_reducible refine w_drop ?_ | with_reducible refine w_ifs ?_ | with_reducible refine w_next ?_ | with_reducible refine w_par ?_
  | with_reducible refine w_op ?_ | with_reducible refine w_un ?_ | ((with_reducible show tVar _ _ _ _); refine' w_var ?hv ?_; (case hv => exact rfl)) | with_reducible refine w_c ?_ | with_reducible refine w_test ?_ | with_reducible refine w_tB ?_
  | with_reducible refine w_bl ?_ | with_reducible refine w_I0 ?_ | with_reducible refine w_U ?_ | with_reducible refine w_eqI ?_ | with_reducible refine w_neI ?_
  | with_reducible refine w_cons ?_ | with_reducible refine w_nil ?_ | with_reducible refine w_gn ?_ | with_reducible refine w_gsub ?_ | with_reducible refine w_and ?_ | with_reducible refine w_or ?_ | with_reducible refine w_not ?_
  | with_reducible refine w_andV ?_ | with_reducible refine w_orV ?_ | with_reducible refine w_notV ?_ | with_reducible refine w_if ?_ | with_reducible refine w_cb ?_ | with_reducible refine w_call ?_ | with_reducible refine w_lst ?_ | with_reducible refine w_tup ?_
  | with_reducible refine w_sl ?_ | with_reducible refine w_noPart ?_ | with_reducible refine w_part ?_ | with_reducible refine w_ex1 ?_ | with_reducible refine w_exb ?_ | with_reducible refine w_intB ?_ | with_reducible refine w_intI ?_ | with_reducible refine w_abs ?_)
local macro_rules | `(tactic| walk_at "rv ix") => `(tactic| ((with_reducible show rIxL _ _ _ _ _); refine' w_ixL (sq_lst ?ha) ?hb ?_; (case ha => first | exact upd_same | assumption); (case hb => first | exact rfl | assumption)))
local macro_rules | `(tactic| walk_at "rv ar") => `(tactic| first
  | (refine' w_I ?hc ?_; (case hc => first | (show (0 : Int) < _; first | assumption | decide | omega) | exact pow_c (by decide) (by decide) (by first | decide | omega) (by first | decide | omega) | exact mul_r (by first | decide | omega) (by first | decide | omega) | exact mul_l (by first | decide | omega) (by first | decide | omega) | exact divw (by first | assumption | decide | omega) (by first | assumption | decide | omega))))
local macro_rules | `(tactic| walk_at "rv go") => `(tactic| repeat first | walk_at "rv st" | walk_at "rv ix" | ((with_reducible show rI _ _ _ _ _ _); walk_at "rv ar"))
theorem w_xf {σ : L2.St} {H : Hp} {Q : VK} {a C dd : Addr} {n : Nat} {f : Str} {fs : List (Str × V)} {v : V} (hn : σ[n]? = some (some (.ref a))) (hd : H dd = some (.xd fs)) (hl : fs.lookup f = some v) (q : Q v H) : tXf a (.ref C) (some dd) C f (tVar n) σ H Q := ⟨_, hn, rfl, rfl, dd, fs, v, rfl, hd, hl, q⟩
theorem sok_str (s : String) : PyData.strOk (Str.ofString s) = true := by
  unfold PyData.strOk Str.ofString
  rw [cpsOfBytes_string]
  simp only [List.all_toArray, List.all_map, List.all_eq_true, Function.comp, decide_eq_true_eq]
  intro c _
  have h := c.valid
  simp only [UInt32.isValidChar, Nat.isValidChar] at h
  show c.val.toNat < _
  omega
theorem sok_app {a b : Str} (h : PyData.strOk a = true) (g : PyData.strOk b = true) : PyData.strOk (a ++ b) = true := by
  unfold PyData.strOk at *
  show (a.cps ++ b.cps).all _ = true
  rw [Array.all_append, h, g]
  rfl
end Rv
namespace Rv
open PySem PySem.Spec PyProof.Rows L2
local macro_rules | `(tactic| walk_at "rv st") => `(tactic| first
  | with_reducible refine iteT ?_ | with_reducible refine iteF ?_ | with_reducible refine w_nx ?_ | with_reducible refine w_yes ?_ | with_reducible refine w_rt ?_ | with_reducible refine iteNT ?_ | with_reducible refine iteNF ?_ | with_reducible refine iteNRf ?_ | with_reducible refine iteRf ?_ | with_reducible refine w_seqA ?_ | with_reducible refine w_seqD ?_ | with_reducible refine w_seqP ?_ | with_reducible refine w_asg ?_ | with_reducible refine w_ret ?_ | with_reducible refine w_drop ?_ | with_reducible refine w_ifs ?_ | with_reducible refine w_next ?_ | with_reducible refine w_par ?_
  | with_reducible refine w_op ?_ | with_reducible refine w_un ?_ | ((with_reducible show tVar _ _ _ _); refine' w_var ?hv ?_; (case hv => exact rfl)) | with_reducible refine w_c ?_ | with_reducible refine w_test ?_ | with_reducible refine w_tB ?_
  | with_reducible refine w_bl ?_ | with_reducible refine w_I0 ?_ | with_reducible refine w_U ?_ | with_reducible refine w_eqI ?_ | with_reducible refine w_neI ?_
  | with_reducible refine w_cons ?_ | with_reducible refine w_nil ?_ | with_reducible refine w_gn ?_ | with_reducible refine w_gsub ?_ | with_reducible refine w_and ?_ | with_reducible refine w_or ?_ | with_reducible refine w_not ?_
  | with_reducible refine w_andV ?_ | with_reducible refine w_orV ?_ | with_reducible refine w_notV ?_ | with_reducible refine w_if ?_ | with_reducible refine w_cb ?_ | with_reducible refine w_call ?_ | with_reducible refine w_lst ?_ | with_reducible refine w_tup ?_
  | with_reducible refine w_sl ?_ | with_reducible refine w_noPart ?_ | with_reducible refine w_part ?_ | with_reducible refine w_ex1 ?_ | with_reducible refine w_exb ?_ | with_reducible refine w_intB ?_ | with_reducible refine w_intI ?_ | with_reducible refine w_abs ?_)
local macro_rules | `(tactic| walk_at "rv ix") => `(tactic| ((with_reducible show rIxL _ _ _ _ _); refine' w_ixL (sq_lst ?ha) ?hb ?_; (case ha => first | exact upd_same | assumption); (case hb => first | exact rfl | assumption)))
local macro_rules | `(tactic| walk_at "rv ar") => `(tactic| first
  | (refine' w_I ?hc ?_; (case hc => first | (show (0 : Int) < _; first | assumption | decide | omega) | exact pow_c (by decide) (by decide) (by first | decide | omega) (by first | decide | omega) | exact mul_r (by first | decide | omega) (by first | decide | omega) | exact mul_l (by first | decide | omega) (by first | decide | omega) | exact divw (by first | assumption | decide | omega) (by first | assumption | decide | omega))))
local macro_rules | `(tactic| walk_at "rv go") => `(tactic| repeat first | walk_at "rv st" | walk_at "rv ix" | ((with_reducible show rI _ _ _ _ _ _); walk_at "rv ar"))
theorem roomH_any {k : Nat} {A A' : Around} (r : Room k A) (hd : A'.depth = A.depth := by rfl) (hu : A'.units = A.units := by rfl) : L2H.RoomH k A' := ⟨by rw [hd]; exact r.dp, by rw [hu]; exact r.un⟩
/-- the text of a fraction's repr -/
def rtext (t b : Int) : Str := ((((("Ratio(" : Str) ++ (toString t : String)) ++ (", " : Str)) ++ (toString b : String)) ++ (")" : Str))
theorem rtext_ok (t b : Int) : PyData.strOk (rtext t b) = true := sok_app (sok_app (sok_app (sok_app (sok_str _) (sok_str _)) (sok_str _)) (sok_str _)) (sok_str _)
/-- what is told of the class Ratio beside RCls -/
def RKi (K : PySem.W.Frag) (C : Addr) : Prop := PySem.W.kitOne K (.ref C) (.type "int") = some false
/-- a value that the law hands in, and its repr's text -/
inductive Odd (C : Addr) (H : Hp) : V → Str → Prop where
  | non : Odd C H .non (PyData.none).shown
  | bl (b : Bool) : Odd C H (.bl b) (PyData.bool b).shown
  | int (i : Int) (h : i.natAbs < 10 ^ 40) : Odd C H (.int i) (PyData.int i).shown
  | str (x : Str) (h1 : PyData.strOk (reprText x) = true) (h2 : (reprText x).length ≤ 1000) : Odd C H (.str x) (PyData.str x).shown
  | tup {a : Addr} (zs : List Int) (h : H a = some (.tup (zs.map V.int))) (hl : zs.length ≤ 1) (hz : ∀ z ∈ zs, z.natAbs < 10 ^ 32) (h1 : PyData.strOk (PyData.tuple (zs.map PyData.int)).shown = true) (h2 : (PyData.tuple (zs.map PyData.int)).shown.length ≤ 1000) : Odd C H (.ref a) (PyData.tuple (zs.map PyData.int)).shown
  | lst {a : Addr} (zs : List Int) (h : H a = some (.lst (zs.map V.int))) (hl : zs.length ≤ 1) (hz : ∀ z ∈ zs, z.natAbs < 10 ^ 32) (h1 : PyData.strOk (PyData.list (zs.map PyData.int)).shown = true) (h2 : (PyData.list (zs.map PyData.int)).shown.length ≤ 1000) : Odd C H (.ref a) (PyData.list (zs.map PyData.int)).shown
  | rat {a : Addr} (t b : Int) (h : RatAt C H a t b) (ht : t.natAbs < 10 ^ 40) (hb : b.natAbs < 10 ^ 40) : Odd C H (.ref a) (rtext t b)
theorem Odd.same {C : Addr} {H H' : Hp} {v : V} {y : Str} (o : Odd C H v y) (e : Same H H') : Odd C H' v y := by
  cases o with
  | non => exact .non
  | bl b => exact .bl b
  | int i h => exact .int i h
  | str x h1 h2 => exact .str x h1 h2
  | tup zs h hl hz h1 h2 => exact .tup zs (e _ _ h) hl hz h1 h2
  | lst zs h hl hz h1 h2 => exact .lst zs (e _ _ h) hl hz h1 h2
  | rat t b h ht hb => exact .rat t b (h.same e) ht hb
theorem Odd.ok {C : Addr} {H : Hp} {v : V} {y : Str} (o : Odd C H v y) : PyData.strOk y = true := by
  cases o with
  | non => exact sok_str "None"
  | bl b =>
    cases b
    · exact sok_str "False"
    · exact sok_str "True"
  | int i h => exact sok_str _
  | str x h1 h2 => exact h1
  | tup zs h hl hz h1 h2 => exact h1
  | lst zs h hl hz h1 h2 => exact h1
  | rat t b h ht hb => exact rtext_ok t b
theorem big_log {z : Int} (h : z.natAbs < 10 ^ 40) : z.natAbs.log2 < 1920 := by
  by_cases h0 : z.natAbs = 0
  · rw [h0]; decide
  · exact (Nat.log2_lt h0).mpr (Nat.lt_of_lt_of_le h (by decide))
theorem big_text {z : Int} (h : z.natAbs < 10 ^ 40) : (Str.ofString (toString z)).length ≤ 41 := by
  have := int_text_length_le10 (k := 40) (by decide) h
  rw [PySem.ofString_length]
  exact this
/-- repr(fraction) -/
def spRRepr (K : PySem.W.Frag) (C : Addr) : Sp := fun vs H Q _ => ∃ a t b, vs = [.ref a] ∧ RCls K C ∧ RatAt C H a t b ∧ t.natAbs < 10 ^ 40 ∧ b.natAbs < 10 ^ 40 ∧ Q (.str (rtext t b)) H
def t_Ratio___repr__ (K : PySem.W.Frag) (C_Ratio : Addr) : TS :=
  (tRet (tJoin [(tC (.str "Ratio(")), (tFmt (tFld K (tVar 0) "reduced_top")), (tC (.str ", ")), (tFmt (tFld K (tVar 0) "reduced_bottom")), (tC (.str ")"))]))
theorem Odd.rp {K : PySem.W.Frag} {C : Addr} {H : Hp} {Q : VK} {v : V} {y : Str} (R : RCls K C) (o : Odd C H v y) (q : Q (.str y) H) : cReprA K C (spRRepr K C) [v] H Q := by
  have sb := sizeLine_big
  refine ⟨v, rfl, ?_⟩
  cases o with
  | non => exact .inl ⟨.none, .non, by simp [PyData.showable], by simp [PyData.hasDict], by simp [PyData.depth], by show (Str.ofString "None").length ≤ sizeLine; decide, q⟩
  | bl b => exact .inl ⟨.bool b, .bl b, by simp [PyData.showable], by simp [PyData.hasDict], by simp [PyData.depth], by cases b <;> decide, q⟩
  | int i h => exact .inl ⟨.int i, .int i, by simpa [PyData.showable] using big_log h, by simp [PyData.hasDict], by simp [PyData.depth], by have := big_text h; show (Str.ofString (toString i)).length ≤ sizeLine; omega, q⟩
  | str x h1 h2 => exact .inl ⟨.str x, .str x, by simp [PyData.showable], by simp [PyData.hasDict], by simp [PyData.depth], by show (reprText x).length ≤ sizeLine; omega, q⟩
  | tup zs h hl hz h1 h2 => exact .inl ⟨.tuple (zs.map PyData.int), .tup (sq_tup h) (dp_ints zs), by simpa [PyData.showable] using ints_showable hz, by simp [PyData.hasDict, ints_dict], by have := (lay_ints zs).2; simp only [PyData.depth, this]; omega, by omega, q⟩
  | lst zs h hl hz h1 h2 => exact .inl ⟨.list (zs.map PyData.int), .lst (sq_lst h) (dp_ints zs), by simpa [PyData.showable] using ints_showable hz, by simp [PyData.hasDict, ints_dict], by have := (lay_ints zs).2; simp only [PyData.depth, this]; omega, by omega, q⟩
  | @rat a t b h ht hb =>
    obtain ⟨l, dx, h'⟩ := id h
    exact .inr ⟨a, dx, _, rfl, h', a, t, b, rfl, R, h, ht, hb, _, rfl, q⟩
theorem p_rrepr {K : PySem.W.Frag} {C : Addr} {vs : List V} {H : Hp} {Q : VK} {E : XK} (h : spRRepr K C vs H Q E) : t_Ratio___repr__ K C { nx := fun _ H' => Q .non H', rt := Q } (start ["self"] vs) H := by
  obtain ⟨a, t, b, rfl, R, hq, ht, hb, k⟩ := h
  obtain ⟨l, dx, ha⟩ := hq
  have sb := sizeLine_big
  have z1 := big_text ht
  have z2 := big_text hb
  have l1 : ("Ratio(" : Str).length = 6 := by decide +kernel
  unfold t_Ratio___repr__
  walk_at "rv go"
  refine w_join ?_
  refine w_js ?_
  walk_at "rv go"
  refine ⟨_, rfl, by rw [str_empty, l1]; omega, ?_⟩
  rw [str_empty]
  refine w_js ?_
  show tFld K (tVar 0) "reduced_top" _ _ _
  refine w_fld rfl ha R.cl R.nT (rfl2_t _ _) ?_
  refine .inr ⟨t, rfl, big_log ht, ?_⟩
  refine ⟨_, rfl, by rw [str_len, l1]; omega, ?_⟩
  refine w_js ?_
  walk_at "rv go"
  refine ⟨_, rfl, by rw [str_len, str_len, l1, len_p2]; omega, ?_⟩
  refine w_js ?_
  show tFld K (tVar 0) "reduced_bottom" _ _ _
  refine w_fld rfl ha R.cl R.nB (rfl2_b _ _) ?_
  refine .inr ⟨b, rfl, big_log hb, ?_⟩
  refine ⟨_, rfl, by rw [str_len, str_len, str_len, l1, len_p2]; omega, ?_⟩
  refine w_js ?_
  walk_at "rv go"
  refine ⟨_, rfl, by rw [str_len, str_len, str_len, str_len, l1, len_p2, len_p3]; omega, ?_⟩
  exact k
end Rv
namespace Rv
open PySem PySem.Spec PyProof.Rows L2
local macro_rules | `(tactic| walk_at "rv st") => `(tactic| first
  | with_reducible refine iteT ?_ | with_reducible refine iteF ?_ | with_reducible refine w_nx ?_ | with_reducible refine w_yes ?_ | with_reducible refine w_rt ?_ | with_reducible refine iteNT ?_ | with_reducible refine iteNF ?_ | with_reducible refine iteNRf ?_ | with_reducible refine iteRf ?_ | with_reducible refine w_seqA ?_ | with_reducible refine w_seqD ?_ | with_reducible refine w_seqP ?_ | with_reducible refine w_asg ?_ | with_reducible refine w_ret ?_ | with_reducible refine w_drop ?_ | with_reducible refine w_ifs ?_ | with_reducible refine w_next ?_ | with_reducible refine w_par ?_
  | with_reducible refine w_op ?_ | with_reducible refine w_un ?_ | ((with_reducible show tVar _ _ _ _); refine' w_var ?hv ?_; (case hv => exact rfl)) | with_reducible refine w_c ?_ | with_reducible refine w_test ?_ | with_reducible refine w_tB ?_
  | with_reducible refine w_bl ?_ | with_reducible refine w_I0 ?_ | with_reducible refine w_U ?_ | with_reducible refine w_eqI ?_ | with_reducible refine w_neI ?_
  | with_reducible refine w_cons ?_ | with_reducible refine w_nil ?_ | with_reducible refine w_gn ?_ | with_reducible refine w_gsub ?_ | with_reducible refine w_and ?_ | with_reducible refine w_or ?_ | with_reducible refine w_not ?_
  | with_reducible refine w_andV ?_ | with_reducible refine w_orV ?_ | with_reducible refine w_notV ?_ | with_reducible refine w_if ?_ | with_reducible refine w_cb ?_ | with_reducible refine w_call ?_ | with_reducible refine w_lst ?_ | with_reducible refine w_tup ?_
  | with_reducible refine w_sl ?_ | with_reducible refine w_noPart ?_ | with_reducible refine w_part ?_ | with_reducible refine w_ex1 ?_ | with_reducible refine w_exb ?_ | with_reducible refine w_intB ?_ | with_reducible refine w_intI ?_ | with_reducible refine w_abs ?_)
local macro_rules | `(tactic| walk_at "rv ix") => `(tactic| ((with_reducible show rIxL _ _ _ _ _); refine' w_ixL (sq_lst ?ha) ?hb ?_; (case ha => first | exact upd_same | assumption); (case hb => first | exact rfl | assumption)))
local macro_rules | `(tactic| walk_at "rv ar") => `(tactic| first
  | (refine' w_I ?hc ?_; (case hc => first | (show (0 : Int) < _; first | assumption | decide | omega) | exact pow_c (by decide) (by decide) (by first | decide | omega) (by first | decide | omega) | exact mul_r (by first | decide | omega) (by first | decide | omega) | exact mul_l (by first | decide | omega) (by first | decide | omega) | exact divw (by first | assumption | decide | omega) (by first | assumption | decide | omega))))
local macro_rules | `(tactic| walk_at "rv go") => `(tactic| repeat first | walk_at "rv st" | walk_at "rv ix" | ((with_reducible show rI _ _ _ _ _ _); walk_at "rv ar"))
theorem free_same {H H' : Hp} {l : Addr} (e : Same H H') (n : H' l = none) : H l = none := by
  cases q : H l with
  | none => rfl
  | some o =>
    rw [e _ _ q] at n
    cases n
end Rv
namespace Rv
open PySem PySem.Spec PyProof.Rows L2
theorem rki_of {K : PySem.W.Frag} {x : Str} (h : decide (PySem.W.kitOne K (.ref (He.ga K x)) (.type "int") = some false) = true) : RKi K (He.ga K x) := (of_decide_eq_true h : PySem.W.kitOne K (.ref (He.ga K x)) (.type "int") = some false)
theorem isI_int {v : V} (h : isI v = true) : ∃ i, v = .int i := by
  cases v with
  | int i => exact ⟨i, rfl⟩
  | _ => exact Bool.noConfusion (show false = true from h)
def t_InvalidNumber___init__ (K : PySem.W.Frag) (C_InvalidNumber : Addr) : TS :=
  (tSeq (tDrop (tBaseI K C_InvalidNumber "ValueError" "ValueError.__new__" "ValueError.__init__" bm_ValueError (tCons (tVar 0) (tCons (tC (.str "not a valid number here")) tNil))))
    (tFst K C_InvalidNumber "ValueError" "ValueError.__new__" "ValueError.__init__" bm_ValueError "value" (tVar 0) (tVar 1)))
local macro_rules | `(tactic| walk_at "rv st") => `(tactic| first
  | with_reducible refine iteT ?_ | with_reducible refine iteF ?_ | with_reducible refine w_nx ?_ | with_reducible refine w_yes ?_ | with_reducible refine w_rt ?_ | with_reducible refine iteNT ?_ | with_reducible refine iteNF ?_ | with_reducible refine iteNRf ?_ | with_reducible refine iteRf ?_ | with_reducible refine w_seqA ?_ | with_reducible refine w_seqD ?_ | with_reducible refine w_seqP ?_ | with_reducible refine w_asg ?_ | with_reducible refine w_ret ?_ | with_reducible refine w_drop ?_ | with_reducible refine w_ifs ?_ | with_reducible refine w_next ?_ | with_reducible refine w_par ?_
  | with_reducible refine w_op ?_ | with_reducible refine w_un ?_ | ((with_reducible show tVar _ _ _ _); refine' w_var ?hv ?_; (case hv => exact rfl)) | with_reducible refine w_c ?_ | with_reducible refine w_test ?_ | with_reducible refine w_tB ?_
  | with_reducible refine w_bl ?_ | with_reducible refine w_I0 ?_ | with_reducible refine w_U ?_ | with_reducible refine w_eqI ?_ | with_reducible refine w_neI ?_
  | with_reducible refine w_cons ?_ | with_reducible refine w_nil ?_ | with_reducible refine w_gn ?_ | with_reducible refine w_gsub ?_ | with_reducible refine w_and ?_ | with_reducible refine w_or ?_ | with_reducible refine w_not ?_
  | with_reducible refine w_andV ?_ | with_reducible refine w_orV ?_ | with_reducible refine w_notV ?_ | with_reducible refine w_if ?_ | with_reducible refine w_cb ?_ | with_reducible refine w_call ?_ | with_reducible refine w_lst ?_ | with_reducible refine w_tup ?_
  | with_reducible refine w_sl ?_ | with_reducible refine w_noPart ?_ | with_reducible refine w_part ?_ | with_reducible refine w_ex1 ?_ | with_reducible refine w_exb ?_ | with_reducible refine w_intB ?_ | with_reducible refine w_intI ?_ | with_reducible refine w_abs ?_)
local macro_rules | `(tactic| walk_at "rv ix") => `(tactic| ((with_reducible show rIxL _ _ _ _ _); refine' w_ixL (sq_lst ?ha) ?hb ?_; (case ha => first | exact upd_same | assumption); (case hb => first | exact rfl | assumption)))
local macro_rules | `(tactic| walk_at "rv ar") => `(tactic| first
  | (refine' w_I ?hc ?_; (case hc => first | (show (0 : Int) < _; first | assumption | decide | omega) | exact pow_c (by decide) (by decide) (by first | decide | omega) (by first | decide | omega) | exact mul_r (by first | decide | omega) (by first | decide | omega) | exact mul_l (by first | decide | omega) (by first | decide | omega) | exact divw (by first | assumption | decide | omega) (by first | assumption | decide | omega))))
local macro_rules | `(tactic| walk_at "rv go") => `(tactic| repeat first | walk_at "rv st" | walk_at "rv ix" | ((with_reducible show rI _ _ _ _ _ _); walk_at "rv ar"))
theorem p_numI {K : PySem.W.Frag} {C : Addr} {vs : List V} {H : Hp} {Q : VK} {E : XK} (h : spExc K C "ValueError" "ValueError.__new__" "ValueError.__init__" bm_ValueError "value" vs H Q E) : t_InvalidNumber___init__ K C { nx := fun _ H' => Q .non H', rt := Q } (start ["self", "value"] vs) H := p_exc "not a valid number here" h fun _ _ => rfl
end Rv
namespace RvM
open PySem PySem.Spec PyProof.Rows L2 Rv
def PoolAt (H : Hp) (d : Addr) : Prop := ∃ num seed : Int, H d = some (.lst [.int num, .int seed]) ∧ 0 ≤ num ∧ 0 ≤ seed ∧ seed < 2147483647
theorem PoolAt.same {H H' : Hp} {d : Addr} (h : PoolAt H d) (e : Same H H') : PoolAt H' d := by
  obtain ⟨num, seed, h1, h2⟩ := h
  exact ⟨num, seed, e _ _ h1, h2⟩
theorem PoolAt.nd {H : Hp} {d a : Addr} (h : PoolAt H d) (n : H a = none) : a ≠ d := by
  obtain ⟨num, seed, h1, h2⟩ := h
  intro e
  rw [e, h1] at n
  cases n
def spPool (K : PySem.W.Frag) : Sp := fun vs H Q _ => ∃ (a : Addr) (ns : List Int), ∃ k : Nat, vs = [.ref a, .int (k : Int)] ∧ SqL K H a (ns.map V.int) ∧ ns.length ≤ 63 ∧ k ≤ 20 ∧ ∀ p H', H p = none → Same H H' → PoolAt H' p → Q (.ref p) H'
def spTake (K : PySem.W.Frag) : Sp := fun vs H Q _ => ∃ (d : Addr) (many : Int), vs = [.ref d, .int many] ∧ PoolAt H d ∧ 0 < many ∧ many < 2 ^ 200 ∧ ∀ r H', 0 ≤ r → r < many → But d H H' → PoolAt H' d → Q (.int r) H'
def t__law_pool (K : PySem.W.Frag) : TS :=
  (tSeq (tAsg (tOp (rIxL K) (tOp rCat (tSl (rSlL K) (tVar 0) (tPart (tVar 1)) (tPart (tOp oAdd (tVar 1) (tC (.int 1))))) (tLst (tCons (tC (.int 0)) tNil))) (tC (.int 0))) (gName 2))
    (tSeq (tAsg (tIf (tTest (tOp oGe (tVar 2) (tC (.int 0)))) (tVar 2) (tOp oSub (tUn (rU fun i => .int (-i)) (tC (.int 1))) (tVar 2))) (gName 3))
    (tSeq (tAsg (tOp oMod (tOp oMul (tOp oAdd (tOp oAdd (tOp oAdd (tOp oMod (tVar 3) (tC (.int 2147483629))) (tOp oMul (tOp oMul (tC (.int 7919)) (tVar 1)) (tVar 1))) (tOp oMul (tC (.int 31)) (tVar 1))) (tC (.int 17))) (tC (.int 48271))) (tC (.int 2147483647))) (gName 4))
    (tRet (tLst (tCons (tOp oMul (tVar 3) (tCB cInt (tCons (tOp oGe (tVar 3) (tOp oPow (tC (.int 10)) (tC (.int 18)))) tNil))) (tCons (tOp oMod (tOp oMul (tVar 4) (tVar 4)) (tC (.int 2147483629))) tNil)))))))
def t__law_take (K : PySem.W.Frag) : TS :=
  (tSeq (tIfS (tTest (tOp oGt (tOp (rIxL K) (tVar 0) (tC (.int 0))) (tC (.int 0)))) (tSeq (tAsg (tOp oMod (tOp (rIxL K) (tVar 0) (tC (.int 0))) (tVar 1)) (gName 2))
    (tSeq (tAsg (tOp oDiv (tOp (rIxL K) (tVar 0) (tC (.int 0))) (tVar 1)) (gSub (tVar 0) (tC (.int 0)) rSetL))
    (tRet (tVar 2)))) tNext)
    (tSeq (tAsg (tOp oMod (tOp oAdd (tOp oMul (tOp (rIxL K) (tVar 0) (tC (.int 1))) (tC (.int 48271))) (tC (.int 12345))) (tC (.int 2147483647))) (gSub (tVar 0) (tC (.int 1)) rSetL))
    (tRet (tOp oMod (tOp oDiv (tOp oMod (tOp oMul (tOp (rIxL K) (tVar 0) (tC (.int 1))) (tOp (rIxL K) (tVar 0) (tC (.int 1)))) (tC (.int 2147483629))) (tC (.int 64))) (tVar 1)))))
local macro_rules | `(tactic| walk_at "rv st") => `(tactic| first
  | with_reducible refine iteT ?_ | with_reducible refine iteF ?_ | with_reducible refine w_nx ?_ | with_reducible refine w_yes ?_ | with_reducible refine w_rt ?_ | with_reducible refine iteNT ?_ | with_reducible refine iteNF ?_ | with_reducible refine iteNRf ?_ | with_reducible refine iteRf ?_ | with_reducible refine w_seqA ?_ | with_reducible refine w_seqD ?_ | with_reducible refine w_seqP ?_ | with_reducible refine w_asg ?_ | with_reducible refine w_ret ?_ | with_reducible refine w_drop ?_ | with_reducible refine w_ifs ?_ | with_reducible refine w_next ?_ | with_reducible refine w_par ?_
  | with_reducible refine w_op ?_ | with_reducible refine w_un ?_ | ((with_reducible show tVar _ _ _ _); refine' w_var ?hv ?_; (case hv => exact rfl)) | with_reducible refine w_c ?_ | with_reducible refine w_test ?_ | with_reducible refine w_tB ?_
  | with_reducible refine w_bl ?_ | with_reducible refine w_I0 ?_ | with_reducible refine w_U ?_ | with_reducible refine w_eqI ?_ | with_reducible refine w_neI ?_
  | with_reducible refine w_cons ?_ | with_reducible refine w_nil ?_ | with_reducible refine w_gn ?_ | with_reducible refine w_gsub ?_ | with_reducible refine w_and ?_ | with_reducible refine w_or ?_ | with_reducible refine w_not ?_
  | with_reducible refine w_andV ?_ | with_reducible refine w_orV ?_ | with_reducible refine w_notV ?_ | with_reducible refine w_if ?_ | with_reducible refine w_cb ?_ | with_reducible refine w_call ?_ | with_reducible refine w_lst ?_ | with_reducible refine w_tup ?_
  | with_reducible refine w_sl ?_ | with_reducible refine w_noPart ?_ | with_reducible refine w_part ?_ | with_reducible refine w_ex1 ?_ | with_reducible refine w_exb ?_ | with_reducible refine w_intB ?_ | with_reducible refine w_intI ?_ | with_reducible refine w_abs ?_)
local macro_rules | `(tactic| walk_at "rv ix") => `(tactic| ((with_reducible show rIxL _ _ _ _ _); refine' w_ixL (sq_lst ?ha) ?hb ?_; (case ha => first | exact upd_same | assumption); (case hb => first | exact rfl | assumption)))
local macro_rules | `(tactic| walk_at "rv ar") => `(tactic| first
  | (refine' w_I ?hc ?_; (case hc => first | (show (0 : Int) < _; first | assumption | decide | omega) | exact pow_c (by decide) (by decide) (by first | decide | omega) (by first | decide | omega) | exact mul_r (by first | decide | omega) (by first | decide | omega) | exact mul_l (by first | decide | omega) (by first | decide | omega) | exact divw (by first | assumption | decide | omega) (by first | assumption | decide | omega))))
local macro_rules | `(tactic| walk_at "rv go") => `(tactic| repeat first | walk_at "rv st" | walk_at "rv ix" | ((with_reducible show rI _ _ _ _ _ _); walk_at "rv ar"))
theorem w_ifM {σ : L2.St} {H : Hp} {Q : VK} {c : TT} {ta tb : TE} {P : Int → Prop} (fin : ∀ z, P z → Q (.int z) H) (h : ∀ Q' : VK, (∀ z, P z → Q' (.int z) H) → tIf c ta tb σ H Q') : tIf c ta tb σ H Q := h Q fin
theorem p_pool {K : PySem.W.Frag} {vs : List V} {H : Hp} {Q : VK} {E : XK} (h : spPool K vs H Q E) : t__law_pool K { nx := fun _ H' => Q .non H', rt := Q } (start ["_law_script", "_law_k", "_law_cell", "_law_number", "_law_mixed"] vs) H := by
  obtain ⟨a, ns, k, rfl, hS, hl, hk, q⟩ := h
  unfold t__law_pool
  walk_at "rv go"
  refine w_slL hS fun p np => ?_
  obtain ⟨ms, em⟩ := cut_map ns (some (k : Int)) (some ((k : Int) + 1))
  have lm : ms.length ≤ 63 := by
    have q1 := cutV_length (ns.map V.int) (some (k : Int)) (some ((k : Int) + 1))
    rw [em, List.length_map, List.length_map] at q1
    omega
  rw [em]
  walk_at "rv go"
  refine ⟨szl (by show 1 ≤ 100000; decide), fun p2 n2 => ?_⟩
  have h1 := same_new (o := .lst [.int 0]) (Same.refl _) n2 _ _ (upd_same (H := H) (a := p) (o := .lst (ms.map V.int)))
  refine ⟨p, p2, _, _, rfl, rfl, h1, upd_same, szl (by rw [List.length_map]; show ms.length + 1 ≤ 100000; omega), fun p3 n3 => ?_⟩
  have e3 := same_new (o := .lst (ms.map V.int ++ [.int 0])) (same_new (o := .lst [.int 0]) (same_new (o := .lst (ms.map V.int)) (Same.refl H) np) n2) n3
  walk_at "rv go"
  have hy : ∃ y : Int, atI (ms.map V.int ++ [.int 0]) 0 = some (.int y) := by
    cases ms with
    | nil => exact ⟨0, rfl⟩
    | cons m r => exact ⟨m, at_nat (xs := List.map V.int (m :: r) ++ [.int 0]) (j := 0) rfl⟩
  obtain ⟨y, hy⟩ := hy
  refine w_ixL (sq_lst upd_same) hy ?_
  generalize upd (upd (upd H p (.lst (ms.map V.int))) p2 (.lst [.int 0])) p3 (.lst (ms.map V.int ++ [.int 0])) = G at e3 ⊢
  refine w_gn ?_
  refine w_seqA ?_
  refine w_ifM (P := fun z => 0 ≤ z) (fun z hz => ?_) (fun Q' fin => ?_)
  · walk_at "rv go"
    have m1 : 0 ≤ (z % 2147483629 + 7919 * (k : Int) * (k : Int) + 31 * (k : Int) + 17) * 48271 % 2147483647 := Int.emod_nonneg _ (by decide)
    have m2 : (z % 2147483629 + 7919 * (k : Int) * (k : Int) + 31 * (k : Int) + 17) * 48271 % 2147483647 < 2147483647 := Int.emod_lt_of_pos _ (by decide)
    generalize (z % 2147483629 + 7919 * (k : Int) * (k : Int) + 31 * (k : Int) + 17) * 48271 % 2147483647 = mx at m1 m2 ⊢
    have hb : ∀ w : Bool, (if w = true then (1 : Int) else 0) = 0 ∨ (if w = true then (1 : Int) else 0) = 1 := fun w => by cases w <;> simp
    have hb1 := hb (decide ((10 : Int) ^ Int.toNat 18 ≤ z))
    generalize (if decide ((10 : Int) ^ Int.toNat 18 ≤ z) = true then (1 : Int) else 0) = u at hb1 ⊢
    refine ⟨szl (by show 2 ≤ 100000; decide), fun r nr => ?_⟩
    refine q r _ ?_ (same_new e3 nr) ⟨_, _, upd_same, ?_, Int.emod_nonneg _ (by decide), Int.lt_of_lt_of_le (Int.emod_lt_of_pos _ (by decide)) (by decide)⟩
    · cases z : H r with
      | none => rfl
      | some o =>
        rw [e3 _ _ z] at nr
        cases nr
    · rcases hb1 with h | h
      · rw [h, Int.mul_zero]
        exact Int.le_refl _
      · rw [h, Int.mul_one]
        exact hz
  · refine w_if ?_
    walk_at "rv go"
    refine w_both (fun c => ?_) (fun c => ?_)
    · walk_at "rv go"
      exact fin _ c
    · walk_at "rv go"
      exact fin _ (by omega)
theorem take_call {K : PySem.W.Frag} {H : Hp} {Q : VK} {E : XK} {d : Addr} {many : Int} (h : PoolAt H d) (h1 : 0 < many) (h2 : many < 2 ^ 200) (k : ∀ r H', 0 ≤ r → r < many → But d H H' → PoolAt H' d → Q (.int r) H') :
    spTake K ([.ref d, .int many] ++ []) H Q E := ⟨d, many, rfl, h, h1, h2, k⟩
theorem p_take {K : PySem.W.Frag} {vs : List V} {H : Hp} {Q : VK} {E : XK} (h : spTake K vs H Q E) : t__law_take K { nx := fun _ H' => Q .non H', rt := Q } (start ["_law_pool_here", "_law_many", "_law_digit"] vs) H := by
  obtain ⟨d, many, rfl, ⟨num, seed, hd, hn, hs, hs2⟩, hm, hm2, k⟩ := h
  unfold t__law_take
  refine w_seq ?_
  walk_at "rv go"
  refine w_both (fun c => ?_) (fun c => ?_)
  · walk_at "rv go"
    refine w_setL hd rfl ?_
    walk_at "rv go"
    exact k _ _ (Int.emod_nonneg _ (by omega)) (Int.emod_lt_of_pos _ hm) (But.refl d H).wr ⟨num / many, seed, upd_same, Int.ediv_nonneg hn (by omega), hs, hs2⟩
  · walk_at "rv go"
    have s1 : 0 ≤ (seed * 48271 + 12345) % 2147483647 := Int.emod_nonneg _ (by decide)
    have s2 : (seed * 48271 + 12345) % 2147483647 < 2147483647 := Int.emod_lt_of_pos _ (by decide)
    refine w_setL hd rfl ?_
    generalize (seed * 48271 + 12345) % 2147483647 = sd at s1 s2 ⊢
    walk_at "rv go"
    exact k _ _ (Int.emod_nonneg _ (by omega)) (Int.emod_lt_of_pos _ hm) (But.refl d H).wr ⟨num, sd, upd_same, hn, s1, s2⟩
def iRn (n : Nat) : TI := fun _ H R => R (Itr 0 n) H
theorem w_forI {σ : L2.St} {H : Hp} {D : Ends} {tr : TA} {s1 : TS} {g : TG} (q : tr σ H fun vs H1 => ∃ j : Int, vs = [.int j] ∧ -(2 ^ 62) ≤ j ∧ j < 2 ^ 62 ∧ tFor (iRn j.toNat) g s1 D σ H1) : tFor (iRng1 tr) g s1 D σ H := q
theorem w_forRn {σ : L2.St} {H : Hp} {D : Ends} {s1 : TS} {slot n : Nat} (Pv : Nat → L2.St → Hp → Prop) (h0 : Pv 0 σ H)
    (hs : ∀ i σ' H', i < n → Pv i σ' H' → s1 { D with nx := Pv (i + 1), ct := Pv (i + 1), bk := D.nx } (σ'.set slot (some (.int (i : Int)))) H') (hd : ∀ σ' H', Pv n σ' H' → D.nx σ' H') : tFor (iRn n) (gName slot) s1 D σ H := by
  refine for_range Pv h0 (fun i σ' H' hi q => ?_) hd
  show s1 _ (σ'.set slot (some (.int ((0 : Int) + (i : Int))))) H'
  rw [Int.zero_add]
  exact hs i σ' H' hi q
/-- a for over a list that is just made -/
theorem w_forLn {K : PySem.W.Frag} {σ : L2.St} {H : Hp} {D : Ends} {tl : TE} {s1 : TS} {g : TG} (q : tl σ H fun x H1 => ∃ a, x = .ref a ∧ tFor (iAt K a) g s1 D σ H1) : tFor (iList K tl) g s1 D σ H := q
theorem w_forLa {K : PySem.W.Frag} {σ : L2.St} {H : Hp} {D : Ends} {s1 : TS} {g : TG} {a : Addr} {xs : List V} (hx : SqL K H a xs) (Pv : Nat → L2.St → Hp → Prop) (h0 : Pv 0 σ H) (hl : ∀ i σ' H', i ≤ xs.length → Pv i σ' H' → SqL K H' a xs)
    (hs : ∀ i x σ' H', xs[i]? = some x → Pv i σ' H' → g x σ' H' fun σ2 H2 => s1 { D with nx := Pv (i + 1), ct := Pv (i + 1), bk := D.nx } σ2 H2) (hd : ∀ σ' H', Pv xs.length σ' H' → D.nx σ' H') : tFor (iAt K a) g s1 D σ H :=
  ⟨⟨xs, hx⟩, for_list Pv h0 hl hs hd⟩
theorem same_but {H H1 H2 : Hp} {p : Addr} (e : Same H H1) (n : H p = none) (b : But p H1 H2) : Same H H2 := fun c o h => b c o (ne_of_none h n) (e c o h)
def OddR (H : Hp) (v : V) : Prop := v = .non ∨ (∃ b, v = .bl b) ∨ (∃ s, v = .str s) ∨ (∃ p xs, v = .ref p ∧ H p = some (.lst xs)) ∨ (∃ p xs, v = .ref p ∧ H p = some (.tup xs)) ∨ ∃ p kvs, v = .ref p ∧ H p = some (.dK kvs)
theorem OddR.same {H H' : Hp} {v : V} (h : OddR H v) (e : Same H H') : OddR H' v := by
  rcases h with h | h | h | ⟨p, xs, h1, h2⟩ | ⟨p, xs, h1, h2⟩ | ⟨p, xs, h1, h2⟩
  · exact .inl h
  · exact .inr (.inl h)
  · exact .inr (.inr (.inl h))
  · exact .inr (.inr (.inr (.inl ⟨p, xs, h1, e _ _ h2⟩)))
  · exact .inr (.inr (.inr (.inr (.inl ⟨p, xs, h1, e _ _ h2⟩))))
  · exact .inr (.inr (.inr (.inr (.inr ⟨p, xs, h1, e _ _ h2⟩))))
end RvM
/-! str, bool, abs and unary minus of own instances. -/
namespace PySem.W
open PySem PySem.Calls PyProof.Rows Builtin
end PySem.W
namespace Rv
open PySem PySem.Spec PyProof.Rows L2
/-- the class at C has a def of one parameter under the name nm -/
structure CalS (P : Program) (w : World) (K : PySem.W.Frag) (mg : Str → Option Value) (base : Heap) (CX : CXT) (k : Nat) (C : Addr) (nm : Str) (sp : Sp) : Prop where
  ex : ∃ f fd, FnOk P w K mg base CX k f fd ["self"] sp ∧ PySem.W.findIn K (.ref C) nm = some (some (.ref f)) ∧ PySem.W.isFn K (.ref f) = true ∧ Binds K fd ["self"] []
def rOwnU (C : Addr) (sp : Sp) (E : XK) : V → Hp → VK → Prop := fun x H Q => ∃ a dx fs, x = .ref a ∧ H a = some (.ins C dx fs) ∧ sp [.ref a] H Q E
section
variable {X : Cx} {CX : CXT} {k : Nat} {sp : Sp} {E : XK} {C : Addr}
theorem run1 {A : Around} {f a : Addr} {fd : FuncData} {pins : List (Addr × Obj)} {σ : L2.St} {H : Hp} {s : Shared} {Q : VK} {B : Value → Shared → Prop} (F : FnOk X.prog X.w X.K X.mg X.base CX k f fd ["self"] sp) (hb : Binds X.K fd ["self"] []) (hr : Room k A)
    (e0 : Env0 X.prog X.w X.K X.mg X.base A (X.stack) s H) (hx : Passes CX X E) (I : Inv X pins σ H s) (q : sp [.ref a] H Q E)
    (k1 : ∀ z H' u s', Inv X pins σ H' s' → RelV z u → Q z H' → B u s') : wpAny (model X.prog X.w) A (call (.ref f) [.ref a]) B X.xe s := by
  have hl := F.len _ _ _ _ q
  have r2 : Vals [V.ref a] [Value.ref a] := .cons rfl .nil
  refine wpAny_call (codeAny_mono (F.run A X.stack s H ⟨[.ref a], []⟩ [.ref a] [.ref a] Q E hr e0 (by
    have := hb s [.ref a] I.kIn (by simpa using hl)
    simpa using this) r2 q) fun r s' hq => ?_)
  cases r with
  | error e => exact hx pins σ H s e s' I hq
  | ok fl =>
    cases fl with
    | ret w =>
      obtain ⟨z, H', I', rz, qz⟩ := I.after hq
      exact k1 z H' w s' I' rz qz
    | next => exact False.elim hq
    | brk => exact False.elim hq
    | cont => exact False.elim hq
theorem un_ownN (c : CalS X.prog X.w X.K X.mg X.base CX k C "__neg__" sp) (hr : Room k X.A) (hx : Passes CX X E) : UnR X (unaryOp .USub) (rOwnU C sp E) := by
  intro pins s σ H x v Q I rx h
  obtain ⟨a, dx, fs, rfl, ha, q⟩ := h
  cases (show v = Value.ref a from rx)
  obtain ⟨f, fd, F, hs, hf, hb⟩ := c.ex
  obtain ⟨mA, J, _⟩ := ins_get I.hok ha
  obtain ⟨od, J, _⟩ := J.look
  obtain ⟨m, hF⟩ := I.fr
  exact PySem.W.ksp_neg hF I.ok.mod.kin J hs hf (run1 F hb hr I.env0 hx I q fun z H' u s' I' rz qz => ⟨z, H', I', rz, qz⟩)
end
end Rv
namespace Rv
open PySem PySem.Spec PyProof.Rows L2
/-- floor division by any number but zero -/
def CDivZ (i j : Int) : Prop := j ≠ 0 ∧ j.natAbs.log2 < 9000
theorem op_fdivZ {X : Cx} : OpR X (binaryOp .FloorDiv) (rI CDivZ fun i j => .int (i.fdiv j)) := opI fun i j _ _ _ _ _ hc q => by
  exact floordiv_int hc.1 q (.inl (PyProof.noPylong_of_log2 hc.2))
/-- the exception of the class at C with the value v leaves -/
def Rz1 (H : Hp) (C : Addr) (v : V) (E : XK) : Prop := ∀ d H', H d = none → Same H H' → H' d = some (.xd [("value", v)]) → E (.ref C) (some d) H'
def zn (n d : Int) : Int := if d < 0 then -n else n
def zd (d : Int) : Int := if d < 0 then -d else d
def zt (n d : Int) : Int := zn n d / (Int.gcd (zn n d) (zd d) : Int)
def zb (n d : Int) : Int := zd d / (Int.gcd (zn n d) (zd d) : Int)
theorem zred {n d : Int} (h : d ≠ 0) : Red (zn n d) (zd d) (zt n d) (zb n d) := red_gcd (by unfold zd; split <;> omega)
/-- what Ratio(v, u) finds wrong first -/
def bad1 (v u : V) : Option V := if isI v = false then some v else if isI u = false then some u else if u = .int 0 then some u else none
def spRInitX (K : PySem.W.Frag) (C CN : Addr) : Sp := fun vs H Q E => ∃ p dx v u, vs = [.ref p, v, u] ∧ RCls K C ∧ OexG K CN "ValueError" "ValueError.__new__" "ValueError.__init__" bm_ValueError ∧ PySem.W.findIn K (.ref CN) "value" = some none ∧ H p = some (.ins C dx []) ∧ Whole K H v ∧ Whole K H u ∧
  (∀ z, bad1 v u = some z → Rz1 H CN z E) ∧
  ∀ n d, v = .int n → u = .int d → d ≠ 0 → Sz 8000 d ∧ ∀ H', RatAt C H' p (zt n d) (zb n d) → (∀ c o, c ≠ p → H c = some o → H' c = some o) → Q .non H'
def spNegR (K : PySem.W.Frag) (C CN : Addr) : Sp := fun vs H Q _ => ∃ a t b, vs = [.ref a] ∧ RCls K C ∧ OexG K CN "ValueError" "ValueError.__new__" "ValueError.__init__" bm_ValueError ∧ PySem.W.findIn K (.ref CN) "value" = some none ∧ RatAt C H a t b ∧ Sz 8000 b ∧ ∀ q H', Same H H' → RatAt C H' q (-t) b → Q (.ref q) H'
def t_Ratio___init__X (K : PySem.W.Frag) (C_Ratio : Addr) (C_InvalidNumber : Addr) (E : XK) : TS :=
  (tSeq (tIfS (tNot (tB (tCall (spWhole K) [] E0 (tCons (tVar 1) tNil)))) (tRaise (tMkO C_InvalidNumber (spExc K C_InvalidNumber "ValueError" "ValueError.__new__" "ValueError.__init__" bm_ValueError "value") [] (tCons (tVar 1) tNil)) E) tNext)
    (tSeq (tIfS (tOr (tNot (tB (tCall (spWhole K) [] E0 (tCons (tVar 2) tNil)))) (tTest (tOp rEq (tVar 2) (tC (.int 0))))) (tRaise (tMkO C_InvalidNumber (spExc K C_InvalidNumber "ValueError" "ValueError.__new__" "ValueError.__init__" bm_ValueError "value") [] (tCons (tVar 2) tNil)) E) tNext)
    (tSeq (tAsg (tCall (spGcd K) [] E0 (tCons (tCB cAbs (tCons (tVar 1) tNil)) (tCons (tCB cAbs (tCons (tVar 2) tNil)) tNil))) (gName 3))
    (tSeq (tIfS (tTest (tOp oLt (tVar 2) (tC (.int 0)))) (tAsg (tUn (rU fun i => .int (-i)) (tVar 3)) (gName 3)) tNext)
    (tSeq (sFld K (tVar 0) (tOp (rI CDivZ fun i j => .int (i.fdiv j)) (tVar 1) (tVar 3)) "reduced_top")
    (sFld K (tVar 0) (tOp (rI CDivZ fun i j => .int (i.fdiv j)) (tVar 2) (tVar 3)) "reduced_bottom"))))))
def t_Ratio___neg__ (K : PySem.W.Frag) (C_Ratio : Addr) (C_InvalidNumber : Addr) : TS :=
  (tRet (tMake C_Ratio (spRInitX K C_Ratio C_InvalidNumber) [] E0 (tCons (tUn (rU fun i => .int (-i)) (tFld K (tVar 0) "reduced_top")) (tCons (tFld K (tVar 0) "reduced_bottom") tNil))))
local macro_rules | `(tactic| walk_at "rv st") => `(tactic| first
  | with_reducible refine iteT ?_ | with_reducible refine iteF ?_ | with_reducible refine w_nx ?_ | with_reducible refine w_yes ?_ | with_reducible refine w_rt ?_ | with_reducible refine iteNT ?_ | with_reducible refine iteNF ?_ | with_reducible refine iteNRf ?_ | with_reducible refine iteRf ?_ | with_reducible refine w_seqA ?_ | with_reducible refine w_seqD ?_ | with_reducible refine w_seqP ?_ | with_reducible refine w_asg ?_ | with_reducible refine w_ret ?_ | with_reducible refine w_drop ?_ | with_reducible refine w_ifs ?_ | with_reducible refine w_next ?_ | with_reducible refine w_par ?_
  | with_reducible refine w_op ?_ | with_reducible refine w_un ?_ | ((with_reducible show tVar _ _ _ _); refine' w_var ?hv ?_; (case hv => exact rfl)) | with_reducible refine w_c ?_ | with_reducible refine w_test ?_ | with_reducible refine w_tB ?_
  | with_reducible refine w_bl ?_ | with_reducible refine w_I0 ?_ | with_reducible refine w_U ?_ | with_reducible refine w_eqI ?_ | with_reducible refine w_neI ?_
  | with_reducible refine w_cons ?_ | with_reducible refine w_nil ?_ | with_reducible refine w_gn ?_ | with_reducible refine w_gsub ?_ | with_reducible refine w_and ?_ | with_reducible refine w_or ?_ | with_reducible refine w_not ?_
  | with_reducible refine w_andV ?_ | with_reducible refine w_orV ?_ | with_reducible refine w_notV ?_ | with_reducible refine w_if ?_ | with_reducible refine w_cb ?_ | with_reducible refine w_call ?_ | with_reducible refine w_lst ?_ | with_reducible refine w_tup ?_
  | with_reducible refine w_sl ?_ | with_reducible refine w_noPart ?_ | with_reducible refine w_part ?_ | with_reducible refine w_ex1 ?_ | with_reducible refine w_exb ?_ | with_reducible refine w_intB ?_ | with_reducible refine w_intI ?_ | with_reducible refine w_abs ?_)
local macro_rules | `(tactic| walk_at "rv ix") => `(tactic| ((with_reducible show rIxL _ _ _ _ _); refine' w_ixL (sq_lst ?ha) ?hb ?_; (case ha => first | exact upd_same | assumption); (case hb => first | exact rfl | assumption)))
local macro_rules | `(tactic| walk_at "rv ar") => `(tactic| first
  | (refine' w_I ?hc ?_; (case hc => first | (show (0 : Int) < _; first | assumption | decide | omega) | exact pow_c (by decide) (by decide) (by first | decide | omega) (by first | decide | omega) | exact mul_r (by first | decide | omega) (by first | decide | omega) | exact mul_l (by first | decide | omega) (by first | decide | omega) | exact divw (by first | assumption | decide | omega) (by first | assumption | decide | omega))))
local macro_rules | `(tactic| walk_at "rv go") => `(tactic| repeat first | walk_at "rv st" | walk_at "rv ix" | ((with_reducible show rI _ _ _ _ _ _); walk_at "rv ar"))
theorem exc_new1 {K : PySem.W.Frag} {C : Addr} {H : Hp} {E : XK} {v : V} (ox : OexG K C "ValueError" "ValueError.__new__" "ValueError.__init__" bm_ValueError) (no : PySem.W.findIn K (.ref C) "value" = some none) (k : Rz1 H C v E) :
    [v].length ≤ 1000 ∧ ∀ a, H a = none → spExc K C "ValueError" "ValueError.__new__" "ValueError.__init__" bm_ValueError "value" (.ref a :: ([v] ++ [])) (upd H a (exo a C none))
      (fun v H2 => v = .non ∧ ∃ (d : Addr) (fs : List (Str × V)), H2 a = some (exo a C (some d)) ∧ H2 d = some (exd d fs) ∧ H d = none ∧ E (.ref C) (some d) (upd (del H2 a) d (.xd fs))) (fun _ _ _ => False) :=
  exc_new ox no fun d H' nd e hd => k d H' nd e hd
theorem fdiv_neg' (n g : Int) (hg : 0 < g) : n.fdiv (-g) = (-n) / g := by
  have e := Int.neg_fdiv_neg (-n) g
  rw [Int.neg_neg] at e
  rw [e, Int.fdiv_eq_ediv_of_nonneg _ (by omega)]
theorem gcd_abs (n d : Int) : Int.gcd (if n < 0 then -n else n) (if d < 0 then -d else d) = Int.gcd (zn n d) (zd d) := by
  have e1 : (if n < 0 then -n else n).natAbs = (zn n d).natAbs := by unfold zn; split <;> split <;> omega
  show Nat.gcd _ _ = Nat.gcd _ _
  rw [e1]
  rfl
theorem p_rinitX {K : PySem.W.Frag} {C CN : Addr} {vs : List V} {H : Hp} {Q : VK} {E : XK} (h : spRInitX K C CN vs H Q E) : t_Ratio___init__X K C CN E { nx := fun _ H' => Q .non H', rt := Q } (start ["self", "numerator", "denominator", "divisor"] vs) H := by
  obtain ⟨p, dx, v, u, rfl, R, ox, no, hp, W, W', kb, k⟩ := h
  unfold t_Ratio___init__X
  refine w_seq ?_
  walk_at "rv go"
  refine ⟨v, rfl, W, ?_⟩
  cases c : isI v with
  | false =>
    walk_at "rv go"
    refine w_raise ?_
    refine w_mkO ?_
    walk_at "rv go"
    exact exc_new1 ox no (kb v (by unfold bad1; rw [if_pos c]))
  | true =>
    obtain ⟨n, rfl⟩ := isI_int c
    walk_at "rv go"
    refine w_seq ?_
    walk_at "rv go"
    refine ⟨u, rfl, W', ?_⟩
    cases g : isI u with
    | false =>
      walk_at "rv go"
      refine w_raise ?_
      refine w_mkO ?_
      walk_at "rv go"
      exact exc_new1 ox no (kb u (by unfold bad1; rw [if_neg (by rw [c]; decide), if_pos g]))
    | true =>
      obtain ⟨d, rfl⟩ := isI_int g
      walk_at "rv go"
      by_cases z : d = 0
      · rw [decide_eq_true z]
        walk_at "rv go"
        refine w_raise ?_
        refine w_mkO ?_
        walk_at "rv go"
        exact exc_new1 ox no (kb _ (by unfold bad1; rw [if_neg (by rw [c]; decide), if_neg (by rw [g]; decide), if_pos (by rw [z])]))
      · rw [decide_eq_false z]
        obtain ⟨sd, k⟩ := k n d rfl rfl z
        walk_at "rv go"
        refine ⟨_, _, rfl, by split <;> omega, by split <;> omega, ?_⟩
        rw [gcd_abs]
        have pd : 0 < zd d := by unfold zd; split <;> omega
        have red := zred (n := n) z
        have g0 : 0 < Int.gcd (zn n d) (zd d) := Int.gcd_pos_iff.mpr (.inr (by omega))
        have gd : Int.gcd (zn n d) (zd d) ≤ d.natAbs := by
          have q1 := Int.le_of_dvd pd (Int.gcd_dvd_right (a := zn n d) (b := zd d))
          have q2 : zd d = (d.natAbs : Int) := by unfold zd; split <;> omega
          omega
        have e1 : zt n d = zn n d / (Int.gcd (zn n d) (zd d) : Int) := rfl
        have e2 : zb n d = zd d / (Int.gcd (zn n d) (zd d) : Int) := rfl
        have sg : Sz 8000 (Int.gcd (zn n d) (zd d) : Int) := by
          unfold Sz at *
          rw [Int.natAbs_natCast]
          omega
        obtain ⟨g', hg'⟩ : ∃ g' : Int, g' = (Int.gcd (zn n d) (zd d) : Int) := ⟨_, rfl⟩
        rw [← hg'] at e1 e2 sg ⊢
        have g1 : 0 < g' := by omega
        clear hg' g0 gd
        have fin : ∀ j : Int, Sz 8000 j → j ≠ 0 → n.fdiv j = zt n d → d.fdiv j = zb n d → ∀ {N : L2.St → Hp → Prop}, (∀ σ' H', Q .non H' → N σ' H') → ∀ {D : Ends}, D.nx = N →
            tSeq (sFld K (tVar 0) (tOp (rI CDivZ fun i j => .int (i.fdiv j)) (tVar 1) (tVar 3)) "reduced_top") (sFld K (tVar 0) (tOp (rI CDivZ fun i j => .int (i.fdiv j)) (tVar 2) (tVar 3)) "reduced_bottom") D [some (.ref p), some (.int n), some (.int d), some (.int j)] H := by
          intro j sj j0 q1 q2 N hN D hD
          have cd : ∀ z : Int, CDivZ z j := fun z => ⟨j0, Nat.lt_of_lt_of_le (PySem.Flt.log2_lt_of (by decide) sj) (by decide)⟩
          refine w_seq ?_
          refine w_sfld ?_
          walk_at "rv go"
          refine w_I (cd _) ?_
          walk_at "rv go"
          refine w_put hp R.cl R.nT (by decide) ?_
          refine w_nx ?_
          refine w_sfld ?_
          walk_at "rv go"
          refine w_I (cd _) ?_
          walk_at "rv go"
          refine w_put upd_same R.cl R.nB (by show 1 < 1000; decide) ?_
          rw [hD]
          refine hN _ _ ?_
          rw [q1, q2]
          refine k _ ⟨⟨red.pos, red.low⟩, dx, upd_same⟩ (fun b o hne hb => ?_)
          rw [upd_ne hne, upd_ne hne]
          exact hb
        walk_at "rv go"
        refine w_seq ?_
        walk_at "rv go"
        by_cases s : d < 0
        · rw [decide_eq_true s]
          walk_at "rv go"
          refine fin (-g') ?_ (by omega) ?_ ?_ (fun _ _ q => q) rfl
          · unfold Sz at *
            rw [Int.natAbs_neg]
            exact sg
          · rw [fdiv_neg' _ _ g1, e1, zn, if_pos s]
          · rw [fdiv_neg' _ _ g1, e2, zd, if_pos s]
        · rw [decide_eq_false s]
          walk_at "rv go"
          refine fin g' sg (by omega) ?_ ?_ (fun _ _ q => q) rfl
          · rw [Int.fdiv_eq_ediv_of_nonneg _ (by omega), e1, zn, if_neg s]
          · rw [Int.fdiv_eq_ediv_of_nonneg _ (by omega), e2, zd, if_neg s]
theorem mk_ratX {K : PySem.W.Frag} {C CN : Addr} {H : Hp} {Q : Addr → Hp → Prop} {E : XK} {n d : Int} {us dvs : List V} (hu : us ++ dvs = [.int n, .int d]) (R : RCls K C) (ox : OexG K CN "ValueError" "ValueError.__new__" "ValueError.__init__" bm_ValueError) (no : PySem.W.findIn K (.ref CN) "value" = some none) (hd : d ≠ 0) (sd : Sz 8000 d) (k : ∀ x H', Same H H' → RatAt C H' x (zt n d) (zb n d) → Q x H') :
    ∀ x dx, H x = none → H dx = none → dx ≠ x → spRInitX K C CN (.ref x :: (us ++ dvs)) (upd (upd H dx (.own x)) x (.ins C dx [])) (fun v H2 => v = .non ∧ Q x H2) E := by
  intro x dx nx ndx hne
  rw [hu]
  have s0 : Same H (upd (upd H dx (.own x)) x (.ins C dx [])) := fun b o hb => by
    rw [upd_ne (ne_of_none hb nx), upd_ne (ne_of_none hb ndx)]
    exact hb
  refine ⟨x, dx, .int n, .int d, rfl, R, ox, no, upd_same, .int n, .int d, fun z e => ?_, fun n' d' e1 e2 _ => ?_⟩
  · unfold bad1 at e
    change (if true = false then some (V.int n) else if true = false then some (V.int d) else if V.int d = .int 0 then some (V.int d) else none) = some z at e
    rw [if_neg (show ¬ true = false by decide), if_neg (show ¬ true = false by decide), if_neg (fun w => hd (V.int.inj w))] at e
    cases e
  · cases e1
    cases e2
    exact ⟨sd, fun H' hr hf => ⟨rfl, k x H' (fun b o hb => hf b o (ne_of_none hb nx) (s0 b o hb)) hr⟩⟩
theorem z_low {t b : Int} (hb : 0 < b) (g : Int.gcd t b = 1) : zt t b = t ∧ zb t b = b := by
  have e1 : zn t b = t := by unfold zn; rw [if_neg (by omega)]
  have e2 : zd b = b := by unfold zd; rw [if_neg (by omega)]
  unfold zt zb
  rw [e1, e2, g]
  exact ⟨Int.ediv_one _, Int.ediv_one _⟩
theorem p_negR {K : PySem.W.Frag} {C CN : Addr} {vs : List V} {H : Hp} {Q : VK} {E : XK} (h : spNegR K C CN vs H Q E) : t_Ratio___neg__ K C CN { nx := fun _ H' => Q .non H', rt := Q } (start ["self"] vs) H := by
  obtain ⟨a, t, b, rfl, R, ox, no, ⟨⟨pb, gb⟩, dx, ha⟩, sb, k⟩ := h
  unfold t_Ratio___neg__
  walk_at "rv go"
  refine w_make ?_
  walk_at "rv go"
  refine w_fld rfl ha R.cl R.nT (rfl2_t _ _) ?_
  walk_at "rv go"
  refine w_fld rfl ha R.cl R.nB (rfl2_b _ _) ?_
  walk_at "rv go"
  refine mk_ratX rfl R ox no (by omega) sb fun x H' e hr => ?_
  obtain ⟨q1, q2⟩ := z_low (t := -t) pb (by rw [Int.neg_gcd]; exact gb)
  rw [q1, q2] at hr
  exact k x H' e hr
theorem sg_of {r : Int} (h0 : 0 ≤ r) (h1 : r < 2) : r = 0 ∨ r = 1 := by omega
theorem w_neR {x y : V} {H : Hp} {Q : VK} (h : scal x y = true) (e : x = y) (q : Q (.bl false) H) : rNe x y H Q := ⟨h, by
  rw [decide_eq_true e]
  exact q⟩
theorem z_le {n d : Int} (hd : d ≠ 0) : (zt n d).natAbs ≤ n.natAbs ∧ (zb n d).natAbs ≤ d.natAbs := by
  have r := zred (n := n) hd
  have e1 : (zn n d).natAbs = n.natAbs := by unfold zn; split <;> omega
  have e2 : (zd d) = (d.natAbs : Int) := by unfold zd; split <;> omega
  refine ⟨by rw [← e1]; exact r.lt, ?_⟩
  have := r.pos
  have := r.le
  omega
/-- the values that are no whole numbers -/
def Od1 (C : Addr) (H : Hp) (x : V) : Prop := ∃ y, Odd C H x y ∧ isI x = false
theorem Od1.same {C : Addr} {H H' : Hp} {x : V} (h : Od1 C H x) (e : Same H H') : Od1 C H' x := by
  obtain ⟨y, h1, h2⟩ := h
  exact ⟨y, h1.same e, h2⟩
theorem sz8 {z : Int} (h : z.natAbs ≤ 100) : Sz 8000 z := Nat.lt_of_le_of_lt h (Nat.lt_of_lt_of_le (show 100 < 2 ^ 7 by decide) (Nat.pow_le_pow_right (by decide) (by decide)))
end Rv
namespace Rv
open PySem PySem.Spec PyProof.Rows L2
end Rv
namespace Rv
open PySem PySem.Spec PyProof.Rows L2
def t_Ratio___add__ (K : PySem.W.Frag) (C_Ratio : Addr) : TS :=
  (tSeq (tAsg (tCall (spAsR K C_Ratio) [] E0 (tCons (tVar 1) tNil)) (gName 2))
    (tSeq (tIfS (tTest (tOp oIsN (tVar 2) (tC .non))) tNever tNext)
    (tSeq (tAsg (tOp oAdd (tOp oMulW (tFld K (tVar 0) "reduced_top") (tFld K (tVar 2) "reduced_bottom")) (tOp oMulW (tFld K (tVar 2) "reduced_top") (tFld K (tVar 0) "reduced_bottom"))) (gName 3))
    (tRet (tMake C_Ratio (spRInit K C_Ratio) [] E0 (tCons (tVar 3) (tCons (tOp oMulW (tFld K (tVar 0) "reduced_bottom") (tFld K (tVar 2) "reduced_bottom")) tNil)))))))
local macro_rules | `(tactic| walk_at "rv st") => `(tactic| first
  | with_reducible refine iteT ?_ | with_reducible refine iteF ?_ | with_reducible refine w_nx ?_ | with_reducible refine w_yes ?_ | with_reducible refine w_rt ?_ | with_reducible refine iteNT ?_ | with_reducible refine iteNF ?_ | with_reducible refine iteNRf ?_ | with_reducible refine iteRf ?_ | with_reducible refine w_seqA ?_ | with_reducible refine w_seqD ?_ | with_reducible refine w_seqP ?_ | with_reducible refine w_asg ?_ | with_reducible refine w_ret ?_ | with_reducible refine w_drop ?_ | with_reducible refine w_ifs ?_ | with_reducible refine w_next ?_ | with_reducible refine w_par ?_
  | with_reducible refine w_op ?_ | with_reducible refine w_un ?_ | ((with_reducible show tVar _ _ _ _); refine' w_var ?hv ?_; (case hv => exact rfl)) | with_reducible refine w_c ?_ | with_reducible refine w_test ?_ | with_reducible refine w_tB ?_
  | with_reducible refine w_bl ?_ | with_reducible refine w_I0 ?_ | with_reducible refine w_U ?_ | with_reducible refine w_eqI ?_ | with_reducible refine w_neI ?_
  | with_reducible refine w_cons ?_ | with_reducible refine w_nil ?_ | with_reducible refine w_gn ?_ | with_reducible refine w_gsub ?_ | with_reducible refine w_and ?_ | with_reducible refine w_or ?_ | with_reducible refine w_not ?_
  | with_reducible refine w_andV ?_ | with_reducible refine w_orV ?_ | with_reducible refine w_notV ?_ | with_reducible refine w_if ?_ | with_reducible refine w_cb ?_ | with_reducible refine w_call ?_ | with_reducible refine w_lst ?_ | with_reducible refine w_tup ?_
  | with_reducible refine w_sl ?_ | with_reducible refine w_noPart ?_ | with_reducible refine w_part ?_ | with_reducible refine w_ex1 ?_ | with_reducible refine w_exb ?_ | with_reducible refine w_intB ?_ | with_reducible refine w_intI ?_ | with_reducible refine w_abs ?_)
local macro_rules | `(tactic| walk_at "rv ix") => `(tactic| ((with_reducible show rIxL _ _ _ _ _); refine' w_ixL (sq_lst ?ha) ?hb ?_; (case ha => first | exact upd_same | assumption); (case hb => first | exact rfl | assumption)))
local macro_rules | `(tactic| walk_at "rv ar") => `(tactic| first
  | (refine' w_I ?hc ?_; (case hc => first | (show (0 : Int) < _; first | assumption | decide | omega) | exact pow_c (by decide) (by decide) (by first | decide | omega) (by first | decide | omega) | exact mul_r (by first | decide | omega) (by first | decide | omega) | exact mul_l (by first | decide | omega) (by first | decide | omega) | exact divw (by first | assumption | decide | omega) (by first | assumption | decide | omega))))
local macro_rules | `(tactic| walk_at "rv go") => `(tactic| repeat first | walk_at "rv st" | walk_at "rv ix" | ((with_reducible show rI _ _ _ _ _ _); walk_at "rv ar"))
theorem p_add {K : PySem.W.Frag} {C : Addr} {vs : List V} {H : Hp} {Q : VK} {E : XK} (h : spAdd K C vs H Q E) : t_Ratio___add__ K C { nx := fun _ H' => Q .non H', rt := Q } (start ["self", "other", "right", "top"] vs) H := by
  obtain ⟨a, v, t, b, n, d, rfl, R, ha, hv, s1, s2, s3, s4, k⟩ := h
  unfold t_Ratio___add__
  walk_at "rv go"
  refine ⟨v, n, d, rfl, R, hv, fun q H1 e hq => ?_⟩
  have hd := hv.pos
  obtain ⟨l1, dx, ha⟩ := ha.same e
  obtain ⟨l2, dy, hq⟩ := hq
  walk_at "rv go"
  refine w_seq ?_
  walk_at "rv go"
  refine ⟨rfl, ?_⟩
  rw [decide_eq_false (show ¬ V.ref q = V.non from fun z => nomatch z)]
  walk_at "rv go"
  refine w_fld rfl ha R.cl R.nT (rfl2_t _ _) ?_
  refine w_fld rfl hq R.cl R.nB (rfl2_b _ _) ?_
  refine w_I (mulw s1 s4 (by decide) (by decide) (by decide)) ?_
  walk_at "rv go"
  refine w_fld rfl hq R.cl R.nT (rfl2_t _ _) ?_
  refine w_fld rfl ha R.cl R.nB (rfl2_b _ _) ?_
  refine w_I (mulw s3 s2 (by decide) (by decide) (by decide)) ?_
  walk_at "rv go"
  refine w_make ?_
  walk_at "rv go"
  refine w_fld rfl ha R.cl R.nB (rfl2_b _ _) ?_
  refine w_fld rfl hq R.cl R.nB (rfl2_b _ _) ?_
  refine w_I (mulw s2 s4 (by decide) (by decide) (by decide)) ?_
  walk_at "rv go"
  exact mk_rat (Q := fun x H' => Q (.ref x) H') rfl R (Int.mul_pos l1.1 hd) ((s2.mul s4).mono (by decide)) fun x H' y z e2 r hr => k x H' y z (e.trans e2) hr r
def sub (xs : List Int) (f l : Nat) : List Int := (xs.drop f).take (l + 1 - f)
theorem rfl2_over (t b : Int) : (rfl2 t b).lookup ("over" : Str) = none := by
  unfold rfl2
  rw [lookup_putF, if_neg (by decide +kernel), lookup_putF, if_neg (by decide +kernel)]
  rfl
end Rv
namespace Rv
open PySem PySem.Spec PyProof.Rows L2
/-- what a value is as a number -/
inductive NumK (K : PySem.W.Frag) (C : Addr) (H : Hp) : V → Option (Int × Int) → Prop where
  | int (i : Int) : NumK K C H (.int i) (some (i, 1))
  | rat {p : Addr} {t b : Int} (h : RatAt C H p t b) : NumK K C H (.ref p) (some (t, b))
  | other {v : V} {t : Value} (ty : TyX K H v t) (kR : PySem.W.kitOne K t (.ref C) = some false) (wh : Whole K H v) (no : isI v = false) : NumK K C H v none
theorem NumK.same {K : PySem.W.Frag} {C : Addr} {H H' : Hp} {v : V} {o : Option (Int × Int)} (h : NumK K C H v o) (e : Same H H') : NumK K C H' v o := by
  cases h with
  | int i => exact .int i
  | rat h => exact .rat (h.same e)
  | other ty kR wh no => exact .other (ty_same ty e) kR (wh.same e) no
/-- the own exception with the one field value -/
structure XV (K : PySem.W.Frag) (C : Addr) (B newId initId : String) (bmB : List Value) : Prop where
  ox : OexG K C B newId initId bmB
  no : PySem.W.findIn K (.ref C) "value" = some none
abbrev XN (K : PySem.W.Frag) (C : Addr) : Prop := XV K C "ValueError" "ValueError.__new__" "ValueError.__init__" bm_ValueError
/-- the exception of the class at C with the value v leaves -/
def Rz (H : Hp) (C : Addr) (v : V) (E : XK) : Prop := ∀ d H', H d = none → Same H H' → H' d = some (.xd [("value", v)]) → E (.ref C) (some d) H'
theorem Rz.same {H H1 : Hp} {C : Addr} {v : V} {E : XK} (h : Rz H C v E) (e : Same H H1) : Rz H1 C v E := fun d H' nd e1 hd => h d H' (free_same e nd) (e.trans e1) hd
theorem exc_newV {K : PySem.W.Frag} {C : Addr} {B newId initId : String} {bmB : List Value} {H : Hp} {E : XK} {v : V} (X : XV K C B newId initId bmB) (k : Rz H C v E) :
    [v].length ≤ 1000 ∧ ∀ a, H a = none → spExc K C B newId initId bmB "value" (.ref a :: ([v] ++ [])) (upd H a (exo a C none))
      (fun v H2 => v = .non ∧ ∃ (d : Addr) (fs : List (Str × V)), H2 a = some (exo a C (some d)) ∧ H2 d = some (exd d fs) ∧ H d = none ∧ E (.ref C) (some d) (upd (del H2 a) d (.xd fs))) (fun _ _ _ => False) :=
  exc_new X.ox X.no fun d H' nd e hd => k d H' nd e hd
def SzO (k : Nat) (o : Option (Int × Int)) : Prop := ∀ n d, o = some (n, d) → Sz k n ∧ Sz k d
def spAsRX (K : PySem.W.Frag) (C : Addr) : Sp := fun vs H Q _ => ∃ v o, vs = [v] ∧ RCls K C ∧ NumK K C H v o ∧ (o = none → Q .non H) ∧ ∀ n d, o = some (n, d) → ∀ q H', Same H H' → RatAt C H' q n d → Q (.ref q) H'
abbrev t_as_ratioX (K : PySem.W.Frag) (C_Ratio : Addr) : TS := t_as_ratio K C_Ratio
local macro_rules | `(tactic| walk_at "rv st") => `(tactic| first
  | with_reducible refine iteT ?_ | with_reducible refine iteF ?_ | with_reducible refine w_nx ?_ | with_reducible refine w_yes ?_ | with_reducible refine w_rt ?_ | with_reducible refine iteNT ?_ | with_reducible refine iteNF ?_ | with_reducible refine iteNRf ?_ | with_reducible refine iteRf ?_ | with_reducible refine w_seqA ?_ | with_reducible refine w_seqD ?_ | with_reducible refine w_seqP ?_ | with_reducible refine w_asg ?_ | with_reducible refine w_ret ?_ | with_reducible refine w_drop ?_ | with_reducible refine w_ifs ?_ | with_reducible refine w_next ?_ | with_reducible refine w_par ?_
  | with_reducible refine w_op ?_ | with_reducible refine w_un ?_ | ((with_reducible show tVar _ _ _ _); refine' w_var ?hv ?_; (case hv => exact rfl)) | with_reducible refine w_c ?_ | with_reducible refine w_test ?_ | with_reducible refine w_tB ?_
  | with_reducible refine w_bl ?_ | with_reducible refine w_I0 ?_ | with_reducible refine w_U ?_ | with_reducible refine w_eqI ?_ | with_reducible refine w_neI ?_
  | with_reducible refine w_cons ?_ | with_reducible refine w_nil ?_ | with_reducible refine w_gn ?_ | with_reducible refine w_gsub ?_ | with_reducible refine w_and ?_ | with_reducible refine w_or ?_ | with_reducible refine w_not ?_
  | with_reducible refine w_andV ?_ | with_reducible refine w_orV ?_ | with_reducible refine w_notV ?_ | with_reducible refine w_if ?_ | with_reducible refine w_cb ?_ | with_reducible refine w_call ?_ | with_reducible refine w_lst ?_ | with_reducible refine w_tup ?_
  | with_reducible refine w_sl ?_ | with_reducible refine w_noPart ?_ | with_reducible refine w_part ?_ | with_reducible refine w_ex1 ?_ | with_reducible refine w_exb ?_ | with_reducible refine w_intB ?_ | with_reducible refine w_intI ?_ | with_reducible refine w_abs ?_)
local macro_rules | `(tactic| walk_at "rv ix") => `(tactic| ((with_reducible show rIxL _ _ _ _ _); refine' w_ixL (sq_lst ?ha) ?hb ?_; (case ha => first | exact upd_same | assumption); (case hb => first | exact rfl | assumption)))
local macro_rules | `(tactic| walk_at "rv ar") => `(tactic| first
  | (refine' w_I ?hc ?_; (case hc => first | (show (0 : Int) < _; first | assumption | decide | omega) | exact pow_c (by decide) (by decide) (by first | decide | omega) (by first | decide | omega) | exact mul_r (by first | decide | omega) (by first | decide | omega) | exact mul_l (by first | decide | omega) (by first | decide | omega) | exact divw (by first | assumption | decide | omega) (by first | assumption | decide | omega))))
local macro_rules | `(tactic| walk_at "rv go") => `(tactic| repeat first | walk_at "rv st" | walk_at "rv ix" | ((with_reducible show rI _ _ _ _ _ _); walk_at "rv ar"))
theorem p_asRX {K : PySem.W.Frag} {C : Addr} {vs : List V} {H : Hp} {Q : VK} {E : XK} (h : spAsRX K C vs H Q E) : t_as_ratioX K C { nx := fun _ H' => Q .non H', rt := Q } (start ["value"] vs) H := by
  obtain ⟨v, o, rfl, R, hv, k1, k2⟩ := h
  cases hv with
  | int i => exact p_asR (E := E) ⟨_, i, 1, rfl, R, .inl ⟨rfl, rfl⟩, k2 _ _ rfl⟩
  | rat h => exact p_asR (E := E) ⟨_, _, _, rfl, R, .inr ⟨_, rfl, h⟩, k2 _ _ rfl⟩
  | other ty kR wh no =>
    unfold t_as_ratioX t_as_ratio
    refine w_seq ?_
    walk_at "rv go"
    refine isi_of (.own C) ty kR ?_
    walk_at "rv go"
    refine w_seq ?_
    walk_at "rv go"
    refine ⟨v, rfl, wh, ?_⟩
    rw [no]
    walk_at "rv go"
    exact k1 rfl
/-- repr of a value of any kind, of {} too -/
def cReprB (K : PySem.W.Frag) (C : Addr) (sp : Sp) : List V → Hp → VK → Prop := fun xs H Q => cReprA K C sp xs H Q ∨ ∃ a, xs = [.ref a] ∧ H a = some (.dK []) ∧ Q (.str (PyData.dict []).shown) H
end Rv
namespace Rv
open PySem PySem.Spec PyProof.Rows L2
/-- a value that the law hands in: as before, or {} -/
inductive OddD (C : Addr) (H : Hp) : V → Str → Prop where
  | odd {v : V} {y : Str} (o : Odd C H v y) : OddD C H v y
  | dic {a : Addr} (h : H a = some (.dK [])) : OddD C H (.ref a) (PyData.dict []).shown
theorem OddD.same {C : Addr} {H H' : Hp} {v : V} {y : Str} (o : OddD C H v y) (e : Same H H') : OddD C H' v y := by
  cases o with
  | odd o => exact .odd (o.same e)
  | dic h => exact .dic (e _ _ h)
theorem OddD.ok {C : Addr} {H : Hp} {v : V} {y : Str} (o : OddD C H v y) : PyData.strOk y = true := by
  cases o with
  | odd o => exact o.ok
  | dic h => decide +kernel
theorem OddD.rp {K : PySem.W.Frag} {C : Addr} {H : Hp} {Q : VK} {v : V} {y : Str} (R : RCls K C) (o : OddD C H v y) (q : Q (.str y) H) : cReprB K C (spRRepr K C) [v] H Q := by
  cases o with
  | odd o => exact .inl (o.rp R q)
  | dic h => exact .inr ⟨_, rfl, h, q⟩
theorem sz40 {z : Int} (h : z.natAbs < 10 ^ 40) : Sz 200 z := Nat.lt_of_lt_of_le h (by decide)
theorem SzO.mono {j k : Nat} {o : Option (Int × Int)} (h : SzO j o) (e : j ≤ k) : SzO k o := fun n d q => ⟨(h n d q).1.mono e, (h n d q).2.mono e⟩
end Rv
/-! i op o for an int i and an instance o of an own class: the int declines, the reflected def of o's class answers. -/
namespace Rv
open PySem PySem.Spec PyProof.Rows L2
/-- the int's own operator does not answer to an instance -/
structure NumDec (op : Operator) (id : String) (B : Builtin) : Prop where
  slot : Slot "int" (dunder op.info.2) id
  entry : entryFor table id = some B
  args : ∀ a b : Value, argsOk id ⟨[a, b], []⟩
  fills : fillsNumberSlot (.type "int") op.info.2 = pure true
  no : ∀ (i : Int) (t : Tok) (x C dx : Addr), Meets (B ⟨[.int i t, .ref x], []⟩) (fun _ R s => s.heap.get? x = some (PySem.W.instObj C dx) ∧ R (.ok (.ret .notImplemented)) s)
theorem dec_add : NumDec .Add "int.__add__" Builtin.«int.__add__» := by
  refine ⟨PySem.F.slot_int_add, PySem.F.entry_int_add, fun a b => PySem.F.args_int_add_2 a b, PySem.F.fills_int_add, fun i t x C dx => .of_wp fun prog w A R s h => ?_⟩
  obtain ⟨hp, g, d, tk, os⟩ := s
  obtain ⟨hl, h⟩ := h
  wp_walk using AutoSeq1.wpAny_loadPart' hl
  exact ⟨_, rfl, h⟩
theorem dec_sub : NumDec .Sub "int.__sub__" Builtin.«int.__sub__» := by
  refine ⟨PySem.F.slot_int_sub, PySem.F.entry_int_sub, fun a b => PySem.F.args_int_sub_2 a b, PySem.F.fills_int_sub, fun i t x C dx => .of_wp fun prog w A R s h => ?_⟩
  obtain ⟨hp, g, d, tk, os⟩ := s
  obtain ⟨hl, h⟩ := h
  wp_walk using AutoSeq1.wpAny_loadPart' hl
  exact ⟨_, rfl, h⟩
theorem dec_mul : NumDec .Mult "int.__mul__" Builtin.«int.__mul__» := by
  refine ⟨PySem.F.slot_int_mul, PySem.F.entry_int_mul, fun a b => PySem.F.args_int_mul_2 a b, PySem.F.fills_int_mul, fun i t x C dx => .of_wp fun prog w A R s h => ?_⟩
  obtain ⟨hp, g, d, tk, os⟩ := s
  obtain ⟨hl, h⟩ := h
  wp_walk using AutoSeq1.wpAny_loadPart' hl
  exact ⟨_, rfl, h⟩
section
variable {X : Cx} {CX : CXT} {k k0 : Nat} {sp sp0 : Sp} {E : XK} {C : Addr}
/-- i op o -/
def rRbin (C : Addr) (sp : Sp) (E : XK) : R2 := fun x y H Q => ∃ i a dx fs, x = .int i ∧ y = .ref a ∧ H a = some (.ins C dx fs) ∧ sp [.ref a, .int i] H Q E
theorem op_rbin {op : Operator} {id : String} {B : Builtin} (D : NumDec op id B) (c0 : CalO X.prog X.w X.K X.mg X.base CX k0 C (dunder op.info.2) sp0) (c : CalO X.prog X.w X.K X.mg X.base CX k C (dunderR op.info.2) sp) (oc : OpC X.K C) (hsub : PySem.W.subIn X.K (.ref C) (.type "int") = some false) (hr : Room k X.A) (hx : Passes CX X E) : OpR X (binaryOp op) (rRbin C sp E) := by
  intro pins s σ H x y v u Q I rx ry h
  obtain ⟨i, a, dx, fs, rfl, rfl, ha, q⟩ := h
  cases (show u = Value.ref a from ry)
  obtain ⟨t, rfl⟩ := (show ∃ t, v = Value.int i t from rx)
  obtain ⟨f0, fd0, F0, hs0, hf0, hb0⟩ := c0.ex
  obtain ⟨f, fd, F, hs, hf, hb⟩ := c.ex
  have go := run2 (y := .int i) (u := .int i t) F hb hx hr I ⟨t, rfl⟩ q
  obtain ⟨mA, J, _⟩ := ins_get I.hok ha
  obtain ⟨od, J, _⟩ := J.look
  obtain ⟨m, hF⟩ := I.fr
  have hk := I.ok.mod.kin.keeps hF.keep
  obtain ⟨_, _, _, hget, _⟩ := (show ObjOk X.prog X.w H s.heap a (.ins C dx fs) from I.hok a _ ha)
  have one := PySem.W.ksp_try (b := .int i t) hk J hs hf go
  obtain ⟨cd, rest, hcd, hm⟩ := PySem.W.ksp_first oc.sf
  have slot := D.slot
  have fills := D.fills
  rcases hi : op.info with ⟨sym, nm⟩
  rw [hi] at hs0 one slot fills
  dsimp only at hs0 one slot fills
  have L3 : PySem.W.Looks (model X.prog X.w) s.heap (fillsNumberSlot (.ref C) nm) true := PySem.W.fills_K hk hcd hm hs0
  simp only [binaryOp, hi]
  refine wpAny_holding (wpAny_bind ?_)
  unfold binaryOp1
  refine wpAny_bind (wpAny_typeOf (typeIs_int s i t) (wpAny_bind (J.type.here ?_)))
  refine wpAny_bind (wpAny_of_eq fills ?_)
  have hne : (Value.type "int" == Value.ref C) = false := rfl
  simp only [hne, Bool.false_eq_true, if_false]
  refine wpAny_bind (L3.here ?_)
  simp only [Bool.and_self, if_true]
  refine wpAny_bind ((PySem.W.looks_subIn hk hsub).here ?_)
  have hpy : numberSlotInPython (.type "int") nm = pure false := rfl
  simp only [Bool.false_eq_true, if_false, pure_bind, Bool.not_false, Bool.and_self, if_true, hpy]
  refine wpAny_bind (m := tryMethod (.int i t) _ (.ref a)) ?_
  unfold tryMethod
  refine wpAny_bind (wpAny_callSpecial?_slot (typeIs_int s i t) slot (call_meets slot (typeIs_int s i t) D.entry (D.args _ _) (D.no i t a C dx) ⟨hget, wpAny_pure ?_⟩))
  refine wpAny_bind (m := tryMethod (.ref a) _ (.int i t)) (wpAny_mono one (fun r s' z => ?_) fun _ _ e => e)
  obtain ⟨v, rfl, hq⟩ := z
  refine wpAny_bind (wpAny_rule (wpAny_pure ?_))
  exact wpAny_pure hq
end
end Rv
/-! sum of a list whose items are instances of an own class (and ints): the own __add__ and __radd__ run within the builtin. -/
namespace Rv
open PySem PySem.Spec PyProof.Rows L2
/-- + within a builtin (the frame A): it raises nothing -/
def AddG (X : Cx) (A : Around) (r : R2) : Prop := ∀ (pins : List (Addr × Obj)) (s : Shared) (σ : L2.St) (H : Hp) (x y : V) (v u : Value) (Q : VK) (B : Value → Shared → Prop) (E : Value → Shared → Prop), Inv X pins σ H s → RelV x v → RelV y u → r x y H Q →
  (∀ z H' w s', Inv X pins σ H' s' → RelV z w → Q z H' → B w s') → wpAny (model X.prog X.w) A (binaryOp .Add v u) B E s
section
variable {X : Cx} {k k0 : Nat} {sp sp0 : Sp} {C : Addr} {A : Around}
theorem run2A {f a : Addr} {fd : FuncData} {pins : List (Addr × Obj)} {σ : L2.St} {H : Hp} {s : Shared} {Q : VK} {y : V} {u : Value} {B : Value → Shared → Prop} {E : Value → Shared → Prop} (F : FnOk X.prog X.w X.K X.mg X.base CX0 k f fd ["self", "other"] sp) (hb : Binds X.K fd ["self", "other"] []) (hr : Room k A)
    (e0 : Env0 X.prog X.w X.K X.mg X.base A X.stack s H) (I : Inv X pins σ H s) (ry : RelV y u) (q : sp [.ref a, y] H Q E0)
    (k1 : ∀ z H' w s', Inv X pins σ H' s' → RelV z w → Q z H' → B w s') : wpAny (model X.prog X.w) A (call (.ref f) [.ref a, u]) (PySem.W.CmpBack B) E s := by
  have hl := F.len _ _ _ _ q
  have r2 : Vals [V.ref a, y] [Value.ref a, u] := .cons rfl (.cons ry .nil)
  refine wpAny_call (codeAny_mono (F.run A X.stack s H ⟨[.ref a, u], []⟩ [.ref a, u] [.ref a, y] Q E0 hr e0 (by
    have := hb s [.ref a, u] I.kIn (by simpa using hl)
    simpa using this) r2 q) fun r s' hq => ?_)
  cases r with
  | error e => exact hq.elim
  | ok fl =>
    cases fl with
    | ret w =>
      obtain ⟨z, H', I', rz, qz⟩ := I.after hq
      exact back_of rz (k1 z H' w s' I' rz qz)
    | next => exact False.elim hq
    | brk => exact False.elim hq
    | cont => exact False.elim hq
/-- own + own, own + int, int + own -/
def rAdd3 (C : Addr) (sp sp' : Sp) : R2 := fun x y H Q => (∃ a dx fs, x = .ref a ∧ H a = some (.ins C dx fs) ∧ Snd C H y ∧ sp [.ref a, y] H Q E0) ∨
  ∃ i a dx fs, x = .int i ∧ y = .ref a ∧ H a = some (.ins C dx fs) ∧ sp' [.ref a, .int i] H Q E0
theorem addG (c : CalO X.prog X.w X.K X.mg X.base CX0 k C "__add__" sp) (c' : CalO X.prog X.w X.K X.mg X.base CX0 k0 C "__radd__" sp0) (oc : OpC X.K C) (on : OpN X.K C "add") (hsub : PySem.W.subIn X.K (.ref C) (.type "int") = some false) (hr : Room k A) (hr0 : Room k0 A)
    (he : ∀ s H, Env0 X.prog X.w X.K X.mg X.base X.A X.stack s H → Env0 X.prog X.w X.K X.mg X.base A X.stack s H) : AddG X A (rAdd3 C sp sp0) := by
  intro pins s σ H x y v u Q B E I rx ry h k1
  obtain ⟨f, fd, F, hs, hf, hb⟩ := c.ex
  obtain ⟨m, hF⟩ := I.fr
  have da : PySem.dunder (Operator.info .Add).2 = ("__add__" : Str) := by decide +kernel
  have dr : PySem.dunderR (Operator.info .Add).2 = ("__radd__" : Str) := by decide +kernel
  rcases h with ⟨a, dx, fs, rfl, ha, sy, q⟩ | ⟨i, a, dx, fs, rfl, rfl, ha, q⟩
  · cases (show v = Value.ref a from rx)
    obtain ⟨mA, J, _⟩ := ins_get I.hok ha
    obtain ⟨od, J, _⟩ := J.look
    have go := run2A (y := y) (u := u) (B := B) (E := E) F hb hr (he _ _ I.env0) I ry q k1
    cases sy with
    | int i =>
      obtain ⟨t, rfl⟩ := (show ∃ t, u = Value.int i t from ry)
      obtain ⟨rc, r1, r2⟩ := on.rd
      obtain ⟨fo, h1⟩ := on.i1
      obtain ⟨ro, h2⟩ := on.i2
      exact PySem.W.ksp_binT (op := .Add) (T := "int") hF I.ok.mod.kin J rfl oc.sf (by rw [da]; exact hs) hf r1 r2 h1 h2 oc.su go
    | own hb' =>
      cases (show u = Value.ref _ from ry)
      obtain ⟨mB, J', _⟩ := ins_get I.hok hb'
      obtain ⟨od', J', _⟩ := J'.look
      exact PySem.W.binop_K (op := .Add) hF I.ok.mod.kin J J'.type oc.sf (by rw [da]; exact hs) hf go
  · cases (show u = Value.ref a from ry)
    obtain ⟨t, rfl⟩ := (show ∃ t, v = Value.int i t from rx)
    obtain ⟨f', fd', F', hs', hf', hb'⟩ := c'.ex
    have go := run2A (y := .int i) (u := .int i t) (B := B) (E := E) F' hb' hr0 (he _ _ I.env0) I ⟨t, rfl⟩ q k1
    obtain ⟨mA, J, _⟩ := ins_get I.hok ha
    obtain ⟨od, J, _⟩ := J.look
    have hk := I.ok.mod.kin.keeps hF.keep
    obtain ⟨_, _, _, hget, _⟩ := (show ObjOk X.prog X.w H s.heap a (.ins C dx fs) from I.hok a _ ha)
    have one := PySem.W.ksp_try (b := .int i t) hk J hs' hf' go
    obtain ⟨cd, rest, hcd, hm⟩ := PySem.W.ksp_first oc.sf
    have L3 : PySem.W.Looks (model X.prog X.w) s.heap (fillsNumberSlot (.ref C) "add") true := PySem.W.fills_K hk hcd hm (by rw [show PySem.dunder "add" = ("__add__" : Str) by decide +kernel]; exact hs)
    have slot : Slot "int" (dunder "add") "int.__add__" := dec_add.slot
    have fills : fillsNumberSlot (.type "int") "add" = pure true := dec_add.fills
    unfold binaryOp
    refine wpAny_holding ?_
    show wpAny _ _ (binaryOp1 "add" (.int i t) (.ref a) >>= _) _ _ _
    refine wpAny_bind ?_
    unfold binaryOp1
    refine wpAny_bind (wpAny_typeOf (typeIs_int s i t) (wpAny_bind (J.type.here ?_)))
    refine wpAny_bind (wpAny_of_eq fills ?_)
    have hne : (Value.type "int" == Value.ref C) = false := rfl
    simp only [hne, Bool.false_eq_true, if_false]
    refine wpAny_bind (L3.here ?_)
    simp only [Bool.and_self, if_true]
    refine wpAny_bind ((PySem.W.looks_subIn hk hsub).here ?_)
    have hpy : numberSlotInPython (.type "int") "add" = pure false := rfl
    simp only [Bool.false_eq_true, if_false, pure_bind, Bool.not_false, Bool.and_self, if_true, hpy]
    refine wpAny_bind (m := tryMethod (.int i t) _ (.ref a)) ?_
    unfold tryMethod
    refine wpAny_bind (wpAny_callSpecial?_slot (typeIs_int s i t) slot (call_meets slot (typeIs_int s i t) dec_add.entry (dec_add.args _ _) (dec_add.no i t a C dx) ⟨hget, wpAny_pure ?_⟩))
    rw [show PySem.dunderR "add" = ("__radd__" : Str) by decide +kernel]
    refine wpAny_bind (m := tryMethod (.ref a) _ (.int i t)) (wpAny_mono one (fun r s' z => ?_) fun _ _ e => e)
    obtain ⟨v, rfl, hq⟩ := z
    refine wpAny_bind (wpAny_rule (wpAny_pure ?_))
    exact wpAny_pure hq
/-- what the sum of zs is, from acc on -/
def sumP (K : PySem.W.Frag) (l : Addr) (whole : List V) (r : R2) : V → List V → Hp → VK → Prop
  | acc, [], H, Q => Q acc H
  | acc, z :: zs, H, Q => r acc z H fun w H' => (∃ b, w = .ref b) ∧ SqL K H' l whole ∧ sumP K l whole r w zs H' Q
def sumR (X : Cx) (pins : List (Addr × Obj)) (σ : L2.St) (Q : VK) (E : Value → Shared → Prop) : Result → Shared → Prop := fun r s' => match r with
  | .ok (.ret w) => EP X pins σ Q w s'
  | .ok _ => False
  | .error e => E e s'
theorem sum_loopO {r : R2} {l It S : Addr} {whole : List V} {pins : List (Addr × Obj)} {σ : L2.St} {Q : VK} {E : Value → Shared → Prop} (AG : AddG X X.A.in1 r) (hc : X.A.handled = none) (ne : It ≠ S) (nl : l ≠ S) :
    ∀ (rest : List V) (i : Nat) (s : Shared) (H : Hp) (acc : V) (v : Value) (c : Nat) (st : Int), whole.drop i = rest → i ≤ whole.length → Inv X pins σ H s → FpOk X pins H S → FpOk X pins H It → s.heap.IsListIter It l i →
    s.heap.get? S = some { cls := .type "list", dict := none, data := .seq #[v] c, slots := #[] } → RelV acc v → SqL X.K H l whole → ((st = 2 ∧ ∃ b, acc = .ref b) ∨ (st = 0 ∧ (∃ j, acc = .int j) ∧ ∃ b rr, rest = .ref b :: rr)) → sumP X.K l whole r acc rest H Q →
    codeAny (model X.prog X.w) X.A (.builtin "sum.loop" ⟨[.ref It, .ref S, rawInt st, rawInt 0], []⟩) (sumR X pins σ Q E) s := by
  intro rest
  induction rest with
  | nil =>
    intro i s H acc v c st hd hi I fS fI hit hS rv hq hst q
    have hin : whole.length ≤ i := List.drop_eq_nil_iff.mp hd
    obtain ⟨its, rl, pl, hz⟩ := I.list hq
    have hl := rl.length
    refine codeAny_builtin F.entry_sum_loop ?_
    rw [Around.under_plainId F.plain_sum_loop _]
    show wpAny _ X.A.in1 (seqItems? (.ref S) >>= _) _ _ s
    refine wpAny_bind (wpAny_seqItems hS rfl ?_)
    show wpAny _ X.A.in1 (tryCatch (pyNext (.ref It)) _ >>= _) _ _ s
    refine wpAny_bind (wpAny_tryCatch (wpAny_pyNext_list_end (A := X.A.in1) hc hit pl.isList (by simp; omega) fun h' eb => ?_))
    have I1 : Inv X pins σ H { s with heap := h' } := I.turned (t' := s.toks) (fun b o hb e => eb b o hb e) fI.1 fI.2.1 fI.2.2.2.1 fI.2.2.2.2.1 fI.2.2.2.2.2
    rcases hst with ⟨rfl, b, rfl⟩ | ⟨_, _, b, rr, e⟩
    · obtain rfl : v = Value.ref b := rv
      exact wpAny_pure ⟨.ref b, H, I1, rfl, q⟩
    · cases e
  | cons z zs ih =>
    intro i s H acc v c st hd hi I fS fI hit hS rv hq hst q
    have hlt : i < whole.length := by
      rcases Nat.lt_or_ge i whole.length with h | h
      · exact h
      · rw [List.drop_of_length_le h] at hd; cases hd
    have hz : whole[i]? = some z := by
      rw [List.drop_eq_getElem_cons hlt] at hd
      rw [List.getElem?_eq_getElem hlt, (List.cons.inj hd).1]
    have hd' : whole.drop (i + 1) = zs := by
      rw [List.drop_eq_getElem_cons hlt] at hd
      exact (List.cons.inj hd).2
    obtain ⟨its, rl, pl, hsz⟩ := I.list hq
    obtain ⟨u, hu, ru⟩ := rl.get hz
    refine codeAny_builtin F.entry_sum_loop ?_
    rw [Around.under_plainId F.plain_sum_loop _]
    show wpAny _ X.A.in1 (seqItems? (.ref S) >>= _) _ _ s
    refine wpAny_bind (wpAny_seqItems hS rfl ?_)
    show wpAny _ X.A.in1 (tryCatch (pyNext (.ref It)) _ >>= _) _ _ s
    refine wpAny_bind (wpAny_tryCatch (wpAny_pyNext_list_item hit pl.isList (x := u) (by simpa using hu) fun h1 hit1 sb => ?_))
    have I1 : Inv X pins σ H { s with heap := h1 } := I.turned (t' := s.toks) (fun b o hb e => (sb.2 b hb).trans e) fI.1 fI.2.1 fI.2.2.2.1 fI.2.2.2.2.1 fI.2.2.2.2.2
    have hS1 : h1.get? S = some { cls := .type "list", dict := none, data := .seq #[v] c, slots := #[] } := (sb.2 S ne.symm).trans hS
    obtain ⟨oI, gI, cI, dI⟩ := id hit1
    have I2 := I1.pinned (fp := [S, It]) (fun b hb => by
      rcases List.mem_cons.mp hb with rfl | hb
      · exact fS
      · rw [List.mem_singleton.mp hb]; exact fI) (fun b hb => by
      rcases List.mem_cons.mp hb with rfl | hb
      · exact ⟨_, hS1, fun w z => by cases (show Data.seq _ _ = Data.cell w from z)⟩
      · rw [List.mem_singleton.mp hb]; exact ⟨_, gI, fun w z => by rw [dI] at z; cases z⟩)
    -- the step by binaryOp
    have step : ∀ (K : Value → Sem Fin), (∀ w s', (∃ b H', w = .ref b ∧ Inv X pins σ H' s' ∧ FpOk X pins H' S ∧ FpOk X pins H' It ∧ s'.heap.IsListIter It l (i + 1) ∧ (∃ c', s'.heap.get? S = some { cls := .type "list", dict := none, data := .seq #[v] c', slots := #[] }) ∧ SqL X.K H' l whole ∧ sumP X.K l whole r (.ref b) zs H' Q) →
        wpAny (model X.prog X.w) X.A.in1 (K w) (fun fin s' => match fin with | .done f => sumR X pins σ Q E (.ok f) s' | .again c' => c'.quiet = true ∧ codeAny (model X.prog X.w) X.A c' (sumR X pins σ Q E) s') (fun e s' => sumR X pins σ Q E (.error e) s') s') →
        ∀ (Er : Value → Sem Fin), wpAny (model X.prog X.w) X.A.in1 ((holding [u] (binaryOp .Add v u)).attempt >>= fun a => match a with | .ok w => K w | .error e => Er e)
          (fun fin s' => match fin with | .done f => sumR X pins σ Q E (.ok f) s' | .again c' => c'.quiet = true ∧ codeAny (model X.prog X.w) X.A c' (sumR X pins σ Q E) s') (fun e s' => sumR X pins σ Q E (.error e) s') { s with heap := h1 } := by
      intro K hK Er
      refine wpAny_bind (wpAny_attempt (wpAny_holding (AG _ _ _ _ _ _ _ _ _ _ _ I2 rv ru q fun w H' wv s' I' rw' hw => ?_)))
      obtain ⟨⟨b, rfl⟩, hq', hs'⟩ := hw
      obtain rfl : wv = Value.ref b := rw'
      have pS := I'.pin (S, _) (List.mem_append_right _ (List.mem_append_right _ (mem_pinsAt (by simp) hS1)))
      have pI := I'.pin (It, _) (List.mem_append_right _ (List.mem_append_right _ (mem_pinsAt (by simp) gI)))
      exact hK _ _ ⟨b, H', rfl, I'.unpinned, ⟨pS.2.1, fS.2⟩, ⟨pI.2.1, fI.2⟩, hit1.at fun o e => by rw [gI] at e; cases e; exact pI.1, ⟨c, pS.1⟩, hq', hs'⟩
    have fin : ∀ w s', (∃ b H', w = .ref b ∧ Inv X pins σ H' s' ∧ FpOk X pins H' S ∧ FpOk X pins H' It ∧ s'.heap.IsListIter It l (i + 1) ∧ (∃ c', s'.heap.get? S = some { cls := .type "list", dict := none, data := .seq #[v] c', slots := #[] }) ∧ SqL X.K H' l whole ∧ sumP X.K l whole r (.ref b) zs H' Q) →
        wpAny (model X.prog X.w) X.A.in1 (do updateSeq S (fun _ => #[w]); letGo [v, u]; updateSeq S (fun _ => #[w]); again (.builtin "sum.loop" ⟨[.ref It, .ref S, rawInt 2, rawInt 0], []⟩))
          (fun fin s' => match fin with | .done f => sumR X pins σ Q E (.ok f) s' | .again c' => c'.quiet = true ∧ codeAny (model X.prog X.w) X.A c' (sumR X pins σ Q E) s') (fun e s' => sumR X pins σ Q E (.error e) s') s' := by
      rintro w s' ⟨b, H', rfl, I', fS', fI', hit', ⟨c', hS'⟩, hq', hs'⟩
      refine wpAny_bind (wpAny_updateSeq hS' rfl ?_)
      have hS₂ := Heap.get?_update_self (Obj.mapSeq fun _ => #[Value.ref b]) hS' rfl
      refine wpAny_bind (wpAny_letGo ?_)
      refine wpAny_bind (wpAny_updateSeq hS₂ rfl (wpAny_pure ⟨plainId_quiet F.plain_sum_loop _, ?_⟩))
      have kk : ∀ x o, x ≠ S → s'.heap.get? x = some o → ((s'.heap.update S (Obj.mapSeq fun _ => #[Value.ref b])).update S (Obj.mapSeq fun _ => #[Value.ref b])).get? x = some o := fun x o hx e =>
        (Heap.get?_update_other _ _ (fun h => hx h.symm)).trans ((Heap.get?_update_other _ _ (fun h => hx h.symm)).trans e)
      exact ih (i + 1) _ H' (.ref b) (.ref b) _ 2 hd' hlt (I'.turned (t' := s'.toks) kk fS'.1 fS'.2.1 fS'.2.2.2.1 fS'.2.2.2.2.1 fS'.2.2.2.2.2) fS' fI' (hit'.at fun o e => kk It o ne e) (Heap.get?_update_self _ hS₂ rfl) rfl hq' (.inl ⟨rfl, b, rfl⟩) hs'
    rcases hst with ⟨rfl, b, rfl⟩ | ⟨rfl, ⟨j, rfl⟩, b, rr, e⟩
    · obtain rfl : v = Value.ref b := rv
      exact step _ fin _
    · obtain ⟨t, rfl⟩ := (show ∃ t, v = Value.int j t from rv)
      cases e
      obtain rfl : u = Value.ref b := ru
      show wpAny _ X.A.in1 (rule "sum.leaves-ints" >>= fun _ => _) _ _ _
      exact wpAny_bind (wpAny_rule (step (fun w => do updateSeq S (fun _ => #[w]); letGo [.int j t, .ref b]; updateSeq S (fun _ => #[w]); again (.builtin "sum.loop" ⟨[.ref It, .ref S, rawInt (match w with | .float .. => 1 | _ => 2), rawInt 0], []⟩)) (fun w s' hw => by
        obtain ⟨b', H', rfl, _⟩ := id hw
        exact fin _ s' hw) _))
/-- sum(a list) -/
def cSumO (K : PySem.W.Frag) (r : R2) : List V → Hp → VK → Prop := fun xs H Q => ∃ l b zs, xs = [.ref l] ∧ SqL K H l (.ref b :: zs) ∧ sumP K l (.ref b :: zs) r (.int 0) (.ref b :: zs) H Q
theorem call_sumO {r : R2} (AG : AddG X X.A.in1 r) (hc : X.A.handled = none) : CallR X (.builtin "sum") (cSumO X.K r) := by
  intro pins s σ H xs us Q I r0 h
  obtain ⟨l, b, zs, rfl, hq, q⟩ := h
  obtain ⟨u, rfl, ru⟩ := vals1 r0
  cases (show u = Value.ref l from ru)
  obtain ⟨its, rl, pl, hz⟩ := I.list hq
  refine call_function_tree F.kind_sum F.plain_sum F.entry_sum (F.args_sum1 _) ?_
  unfold Builtin.«sum»
  simp only [List.length_cons, List.length_nil]
  rw [if_neg (by decide)]
  refine wpAny_bind (wpAny_of_eq (show Builtin.Builtins.bindParams "sum" ["start"] 0 { } = pure [none] from rfl) ?_)
  refine wpAny_bind (wpAny_pyIter_list pl.isList ?_)
  refine wpAny_bind (wpAny_mkInt ?_)
  refine wpAny_bind (wpAny_pure ?_)
  simp only [List.forIn_cons, List.forIn_nil]
  refine wpAny_bind (wpAny_bind (wpAny_bind (wpAny_isInstance (T := "int") (b := false) (typeIs_int _ _ _) PySem.sub_int_str ?_)))
  simp only [Bool.false_eq_true, if_false]
  refine wpAny_pure (wpAny_bind (wpAny_bind (wpAny_isInstance (T := "int") (b := false) (typeIs_int _ _ _) PySem.sub_int_bytes ?_)))
  simp only [Bool.false_eq_true, if_false]
  refine wpAny_pure (wpAny_bind (wpAny_bind (wpAny_isInstance (T := "int") (b := false) (typeIs_int _ _ _) PySem.sub_int_bytearray ?_)))
  simp only [Bool.false_eq_true, if_false]
  refine wpAny_pure (wpAny_pure ?_)
  refine wpAny_bind (wpAny_newObj_type ?_)
  refine wpAny_pure ⟨plainId_quiet F.plain_sum_loop _, ?_⟩
  have s1 : (s.heap.push { cls := .type "list_iterator", data := .fields #[.ref l, .int 0 0] }).objs.size = s.heap.objs.size + 1 := Heap.size_push ..
  have hl : l < s.heap.objs.size := by obtain ⟨o, ho, _⟩ := pl.isList; exact Heap.lt_size ho
  have g1 : (s.heap.push { cls := .type "list_iterator", data := .fields #[.ref l, .int 0 0] }).get? s.heap.objs.size = some { cls := .type "list_iterator", data := .fields #[.ref l, .int 0 0] } := Heap.get?_push_size _ rfl
  have I2 : Inv X pins σ H { s with heap := (s.heap.push { cls := .type "list_iterator", data := .fields #[.ref l, .int 0 0] }).push { cls := .type "list", data := .seq #[.int 0 s.toks] }, toks := s.toks + 1 } :=
    I.kept fun x o e => Heap.get?_push_of_some _ (Heap.get?_push_of_some _ e)
  have fS : FpOk X pins H (s.heap.push { cls := .type "list_iterator", data := .fields #[.ref l, .int 0 0] }).objs.size := I.fpOk (by rw [s1]; exact Nat.le_succ _) (I.hok.fresh (by rw [s1]; exact Nat.le_succ _))
  have fI : FpOk X pins H s.heap.objs.size := I.fpOk (Nat.le_refl _) (I.hok.fresh (Nat.le_refl _))
  have go := sum_loopO (E := X.xe) (Q := Q) (l := l) (whole := .ref b :: zs) AG hc (It := s.heap.objs.size) (S := (s.heap.push { cls := .type "list_iterator", data := .fields #[.ref l, .int 0 0] }).objs.size) (by rw [s1]; exact Nat.ne_of_lt (Nat.lt_succ_self _)) (by rw [s1]; exact Nat.ne_of_lt (Nat.lt_succ_of_lt hl)) (.ref b :: zs) 0 _ H (.int 0) (.int 0 s.toks) _ 0 rfl (Nat.zero_le _) I2 fS fI
    ⟨_, Heap.get?_push_of_some _ g1, rfl, rfl⟩ (Heap.get?_push_size _ rfl) ⟨_, rfl⟩ hq (.inr ⟨rfl, ⟨0, rfl⟩, b, zs, rfl⟩) q
  exact codeAny_mono go fun r s' h => by
    cases r with
    | error e => exact h
    | ok f => cases f <;> exact h
end
end Rv
/-! repr of a list whose items are instances of an own class. -/
namespace PySem.W
open PySem PySem.Calls PyProof.Rows Builtin
section
variable {prog : Program} {w : World} {A : Around} {E : Value → Shared → Prop} {s : Shared} {K : Frag} {C x f : Addr} {ox : Obj} {od : Option Obj} {name : Str}
theorem rvo_ifBoundBy {M : Model} {last : Value → List Value → Sem Value} {Q : Option Value → Shared → Prop} (X : K.In s.heap) (I : InstAt s.heap x ox C od) (hs : findIn K (.ref C) name = some (some (.ref f))) (hf : isFn K (.ref f) = true)
    (h : wpAny M A (last (.ref f) [.ref x]) (fun v => Q (some v)) E s) : wpAny M A (callSpecialIfBoundBy? last (.ref x) name) Q E s := by
  simp only [callSpecialIfBoundBy?, bindSpecialIfBound?]
  refine wpAny_holding (wpAny_bind (wpAny_bind (wpAny_bind (I.type.here ((looks_findIn X hs).here ?_)))))
  refine wpAny_bind (wpAny_askSetting (wpAny_ite ?_))
  have fin : wpAny M A (last (.ref f) [.ref x] >>= fun v => pure (some v)) Q E s := wpAny_bind (wpAny_mono h (fun v s' h' => wpAny_pure h') fun _ _ h' => h')
  split
  · exact wpAny_bind ((bind_fn X _ (beq_iff_eq.mp hf)).here (wpAny_pure (by exact fin)))
  · exact wpAny_tryCatch (wpAny_bind ((bind_fn X _ (beq_iff_eq.mp hf)).here (wpAny_pure (by exact fin))))
theorem rvo_reprUnder {b : Nat} {Q : Str → Shared → Prop} (hb : b ≤ sizeLine) (hu : A.units < cLine) (X : K.In s.heap) (I : InstAt s.heap x ox C od) (hs : findIn K (.ref C) "__repr__" = some (some (.ref f))) (hf : isFn K (.ref f) = true)
    (h : wpAny (model prog w) A (call (.ref f) [.ref x]) (StrBack fun v s' => ∃ y t, v = .str y t ∧ Q y s') E s) : wpAny (model prog w) A (pyReprUnder b (.ref x)) Q E s := by
  refine wpAny_pyReprUnder_ref hb ?_
  unfold pyReprObjUnder pyReprObjBy
  refine wpAny_bind (wpAny_cRoomFor hu ?_)
  refine wpAny_bind (wpAny_bind (I.type.here ((looks_findIn X hs).here ?_)))
  show wpAny _ _ (if (some (Value.ref f)).isNone = true then _ else _) _ _ _
  rw [if_neg (by simp)]
  refine wpAny_bind (m := callSpecialIfBoundBy? _ (.ref x) (Str.ofString "__repr__")) (rvo_ifBoundBy X I hs hf ?_)
  show wpAny _ _ (call (.ref f) [.ref x]) _ _ _
  refine wpAny_mono h (fun r s' hr => ?_) fun _ _ y => y
  cases r <;> first | exact hr.elim | skip
  obtain ⟨y, t, e, hq⟩ := hr
  cases e
  refine wpAny_bind (wpAny_isInstance (typeIs_str _ _ _) isSubtype_str_str ?_)
  first
    | exact wpAny_pure ⟨_, _, rfl, hq⟩
    | (rw [if_pos rfl]; exact wpAny_pure ⟨_, _, rfl, hq⟩)
    | (simp only [if_true]; exact wpAny_pure ⟨_, _, rfl, hq⟩)
end
end PySem.W
namespace Rv
open PySem PySem.Spec PyProof.Rows L2 L2H
theorem Env0.anyA {P : Program} {w : World} {K : PySem.W.Frag} {mg : Str → Option Value} {base : Heap} {A A' : Around} {outer : List Env} {s : Shared} {H : Hp} (e : Env0 P w K mg base A outer s H) (h : A'.frames = A.frames) : Env0 P w K mg base A' outer s H := by
  constructor
  · rw [h]; exact e.frames
  all_goals first
    | exact e.mod
    | exact e.bs
    | exact e.bsz
    | exact e.bare
    | exact e.hok
    | exact e.funs
    | exact e.frf
section
variable {X : Cx} {k : Nat} {sp : Sp} {C : Addr} {A : Around}
/-- repr of the item z is t, nothing changes -/
def RepO (C : Addr) (sp : Sp) (H : Hp) (z : V) (t : Str) : Prop := ∃ a dx fs, z = .ref a ∧ H a = some (.ins C dx fs) ∧ sp [.ref a] H (fun w H' => w = .str t ∧ H' = H) E0
theorem repr_item {b : Nat} {pins : List (Addr × Obj)} {σ : L2.St} {H : Hp} {s : Shared} {z : V} {u : Value} {t : Str} {B : Str → Shared → Prop} {E : Value → Shared → Prop} (c : CalUC X.prog X.w X.K X.mg X.base k C "__repr__" sp) (hr : RoomH k A) (hb : b ≤ sizeLine) (hu : A.units < cLine) (hA : A.frames = X.A.frames)
    (I : Inv X pins σ H s) (rz : RelV z u) (q : RepO C sp H z t) (k1 : ∀ s', Inv X pins σ H s' → B t s') : wpAny (model X.prog X.w) A (pyReprUnder b u) B E s := by
  obtain ⟨a, dx, fs, rfl, ha, q⟩ := q
  obtain rfl : u = Value.ref a := rz
  obtain ⟨f, fd, F, hs, hf, hbd⟩ := c.ex
  obtain ⟨mA, J, _⟩ := ins_get I.hok ha
  obtain ⟨od, J, _⟩ := J.look
  have hl := F.len _ _ _ _ q
  have r2 : Vals [V.ref a] [Value.ref a] := .cons rfl .nil
  refine PySem.W.rvo_reprUnder hb hu I.kIn J hs hf ?_
  refine wpAny_call (codeAny_mono (F.run A X.stack s H ⟨[.ref a], []⟩ [.ref a] [.ref a] _ E0 hr (Env0.anyA I.env0 hA) (by
    have := hbd s [.ref a] I.kIn (by simpa using hl)
    simpa using this) r2 q) fun r s' hq => ?_)
  cases r with
  | error e => exact hq.elim
  | ok fl =>
    cases fl with
    | ret w =>
      obtain ⟨z, H', I', rz, rfl, rfl⟩ := I.after hq
      obtain ⟨tk, rfl⟩ := (show ∃ t', w = Value.str t t' from rz)
      exact ⟨t, tk, rfl, k1 s' I'⟩
    | next => exact False.elim hq
    | brk => exact False.elim hq
    | cont => exact False.elim hq
def strR (X : Cx) (pins : List (Addr × Obj)) (σ : L2.St) (Q : VK) (E : Value → Shared → Prop) : Result → Shared → Prop := fun r s' => match r with
  | .ok (.ret w) => ∃ y t, w = .str y t ∧ EP X pins σ Q w s'
  | .ok _ => False
  | .error e => E e s'
theorem repr_loopO {l P : Addr} {whole : List V} {ts : List Str} {pins : List (Addr × Obj)} {σ : L2.St} {H : Hp} {Q : VK} {E : Value → Shared → Prop} {B : Around} (c : CalUC X.prog X.w X.K X.mg X.base k C "__repr__" sp) (hr : RoomH (k + 1) B) (hB : B.frames = X.A.frames) (ne : l ≠ P)
    (hq : SqL X.K H l whole) (hlen : ts.length = whole.length) (hT : ∀ (i : Nat) (z : V) (t : Str), whole[i]? = some z → ts[i]? = some t → RepO C sp H z t) (hsz : (listText ts).length ≤ sizeLine) (q : Q (.str (listText ts)) H) :
    ∀ (m i : Nat) (s : Shared) (acc : Array Value) (cc : Nat) (done : List (Str × Tok)), whole.length - i = m → i ≤ whole.length → Inv X pins σ H s → FpOk X pins H P →
    s.heap.get? P = some { cls := .type "list", dict := none, data := .seq acc cc, slots := #[] } → acc.toList = strValues done → done.map (·.1) = ts.take i →
    codeAny (model X.prog X.w) B (.builtin "list.__repr__.loop" ⟨[.ref l, rawInt i, .ref P, rawInt ((0 + piled (ts.take i) : Nat) : Int)], []⟩) (strR X pins σ Q E) s := by
  have hX : (listText ts).length = (textFrom 0 "[" ts).length + 1 := by
    show (textFrom 0 "[" ts ++ "]").length = _
    rw [strLen_append]; rfl
  have hL := textFrom_len ts 0 "["
  have hsz1 : whole.length ≤ sizeLine := by
    have h1 := hL.1
    rw [if_neg (Nat.lt_irrefl 0)] at h1
    omega
  have hsz2 : ∀ t ∈ ts, t.length ≤ sizeLine := fun t ht => by
    have h2 := hL.2.1 t ht
    omega
  have hp3 := piled_le_listText ts
  intro m
  induction m with
  | zero =>
    intro i s acc cc done hk hi I fP hP hacc hdone
    have hin : i = whole.length := by omega
    obtain ⟨its, rl, pl, hz⟩ := I.list hq
    have hil := rl.length
    obtain ⟨ol, gl, cl, nn, dl⟩ := id pl.isList
    refine codeAny_builtin F.entry_list_repr_loop ?_
    show wpAny _ _ (Builtin.«list.__repr__.loop» ⟨[.ref l, .int i 0, .ref P, .int ((0 + piled (ts.take i) : Nat) : Int) 0], []⟩) _ _ s
    rw [repr_loop_tree]
    refine wpAny_bind (wpAny_listItems gl dl ?_)
    have hnone : its.toArray[(i : Int).toNat]? = none := by simp; omega
    simp only [hnone]
    unfold reprEnd
    refine wpAny_bind (wpAny_listItems hP rfl ?_)
    rw [hacc, repr_fold]
    refine wpAny_bind (wpAny_pure ?_)
    have hall : done.map (·.1) = ts := by rw [hdone, hin, ← hlen, List.take_length]
    rw [hall]
    refine wpAny_bind (wpAny_mkStr (wpAny_pure ?_) hsz)
    exact ⟨_, _, rfl, .str _, H, I.tok _, ⟨_, rfl⟩, q⟩
  | succ m ih =>
    intro i s acc cc done hk hi I fP hP hacc hdone
    have hlt : i < whole.length := by omega
    obtain ⟨its, rl, pl, hz⟩ := I.list hq
    have hil := rl.length
    obtain ⟨ol, gl, cl, nn, dl⟩ := id pl.isList
    have hzi : whole[i]? = some whole[i] := List.getElem?_eq_getElem hlt
    obtain ⟨u, hu, ru⟩ := rl.get hzi
    obtain ⟨t, ht⟩ : ∃ t, ts[i]? = some t := ⟨ts[i]'(by omega), List.getElem?_eq_getElem (by omega)⟩
    have hrep := hT i _ t hzi ht
    have hp1 := piled_take_succ ht
    have hp2 := piled_take_le ts (i + 1)
    refine codeAny_builtin F.entry_list_repr_loop ?_
    show wpAny _ _ (Builtin.«list.__repr__.loop» ⟨[.ref l, .int i 0, .ref P, .int ((0 + piled (ts.take i) : Nat) : Int) 0], []⟩) _ _ s
    rw [repr_loop_tree]
    refine wpAny_bind (wpAny_listItems gl dl ?_)
    have hsome : its.toArray[(i : Int).toNat]? = some u := by simpa using hu
    simp only [hsome]
    rw [Int.toNat_natCast]
    have I2 := I.pinned (fp := [P]) (fun b hb => by rw [List.mem_singleton.mp hb]; exact fP) (fun b hb => by rw [List.mem_singleton.mp hb]; exact ⟨_, hP, fun w z => by cases (show Data.seq _ _ = Data.cell w from z)⟩)
    have hun := hr.un
    have hdp := hr.dp
    have eu := units_under_list_loop B ⟨[.ref l, .int i 0, .ref P, .int ((0 + piled (ts.take i) : Nat) : Int) 0], []⟩
    have ed : (B.under (.builtin "list.__repr__.loop" ⟨[.ref l, .int i 0, .ref P, .int ((0 + piled (ts.take i) : Nat) : Int) 0], []⟩)).depth = B.depth + 1 := by first | rfl | (simp [Around.under, Code.weight, Code.frames, Code.isFrame, isGuard_list_loop]; done) | (show B.depth + _ = _; rfl)
    refine wpAny_bind (wpAny_holding (repr_item (b := 0 + piled (ts.take i) + 1) c (A := B.under (.builtin "list.__repr__.loop" ⟨[.ref l, .int i 0, .ref P, .int ((0 + piled (ts.take i) : Nat) : Int) 0], []⟩)) ⟨by rw [ed]; omega, by rw [eu]; omega⟩ (by omega) (by rw [eu]; omega) hB I2 ru hrep fun s' I' => ?_))
    have pP := I'.pin (P, _) (List.mem_append_right _ (List.mem_append_right _ (mem_pinsAt (by simp) hP)))
    refine wpAny_bind (wpAny_mkStr ?_ (hsz2 t (List.mem_of_getElem? ht)))
    refine wpAny_bind ?_
    show wpAny _ _ (updateSeq P _) _ _ _
    have hasz : acc.size ≤ sizeLine := by
      have e1 : acc.toList.length = acc.size := by simp
      have e2 : (strValues done).length = done.length := by simp [strValues]
      have e3 : done.length = (ts.take i).length := by rw [← hdone, List.length_map]
      have e4 : (ts.take i).length ≤ i := by rw [List.length_take]; omega
      rw [hacc] at e1; omega
    refine wpAny_updateSeq pP.1 rfl (wpAny_pure ⟨F.quiet_list_repr_loop _, ?_⟩) hasz
    have e1 : ((i : Int) + 1) = ((i + 1 : Nat) : Int) := by omega
    have e2 : 0 + piled (ts.take i) + (t.length + 2) = 0 + piled (ts.take (i + 1)) := by omega
    rw [e1, e2]
    have fP' : FpOk X pins H P := fP
    exact ih (i + 1) _ (acc.push (.str t s'.toks)) _ (done ++ [(t, s'.toks)]) (by omega) hlt
      (I'.unpinned.turned (t' := s'.toks + 1) (fun b o hb e => (Heap.get?_update_other _ _ (fun h : P = b => hb h.symm)).trans e) fP.1 fP.2.1 fP.2.2.2.1 fP.2.2.2.2.1 fP.2.2.2.2.2) fP'
      (Heap.get?_update_self _ pP.1 rfl) (by simp [hacc, strValues]) (by simp [List.take_add_one, ht, hdone])
/-- repr(a list of own instances) -/
def cReprLO (K : PySem.W.Frag) (C : Addr) (sp : Sp) : List V → Hp → VK → Prop := fun xs H Q => ∃ l z zs ts, xs = [.ref l] ∧ SqL K H l (z :: zs) ∧ ts.length = (z :: zs).length ∧
  (∀ (i : Nat) (y : V) (t : Str), (z :: zs)[i]? = some y → ts[i]? = some t → RepO C sp H y t) ∧ (listText ts).length ≤ sizeLine ∧ Q (.str (listText ts)) H
theorem call_reprLO (c : CalUC X.prog X.w X.K X.mg X.base k C "__repr__" sp) (hg : X.A.guards = some []) (hr : RoomH (k + 2) X.A) : CallR X (.builtin "repr") (cReprLO X.K C sp) := by
  intro pins s σ H xs us Q I r0 h
  obtain ⟨l, z, zs, ts, rfl, hq, hlen, hT, hsz, q⟩ := h
  obtain ⟨u, rfl, ru⟩ := vals1 r0
  cases (show u = Value.ref l from ru)
  obtain ⟨its, rl, pl, hz⟩ := I.list hq
  cases rl with
  | @cons _ u0 _ ur ra rr =>
    have rl : Vals (z :: zs) (u0 :: ur) := .cons ra rr
    obtain ⟨ol, gl, cl, nn, dl⟩ := id pl.isList
    have hun := hr.un
    refine call_repr_slot (T := "list") (by omega) ⟨ol, gl, cl⟩ F.slot_list_repr.toG ?_
    refine wpAny_call (codeAny_call_builtin F.slot_list_repr.plain F.entry_list_repr (F.slot_list_repr.check _ _ _ _ _ _ _ _ ⟨ol, gl, cl⟩ (F.args_list_repr_1 _) ?_))
    show wpAny (model X.prog X.w) X.A.in1.in1 (Builtin.listReprAt 0 ⟨[.ref l], []⟩) _ _ _
    refine wpAny_list_repr_head (A := X.A.in1.in1) (g := []) hg (fun v rest kw hm => nomatch hm) gl dl ?_
    refine wpAny_bind (m := newList []) (wpAny_newObj_type ?_)
    refine wpAny_pure ⟨F.quiet_list_repr_loop _, ?_⟩
    have I2 : Inv X pins σ H { s with heap := s.heap.push { cls := .type "list", data := .seq #[] } } := I.kept (t' := s.toks) fun x o e => Heap.get?_push_of_some _ e
    have go := repr_loopO (Q := Q) (E := X.xe) (B := X.A.in1) (ts := ts) c ⟨by have := hr.dp; show X.A.depth + 3 * (k + 1) + 5 < _; omega, by show X.A.units + 1 + 16 * (k + 1) + 200 < _; omega⟩ rfl (Nat.ne_of_lt (Heap.lt_size gl)) hq hlen hT hsz q _ 0 _ #[] _ [] rfl (Nat.zero_le _) I2
      (I.fpOk (Nat.le_refl _) (I.hok.fresh (Nat.le_refl _))) (Heap.get?_push_size _ rfl) rfl rfl
    refine codeAny_mono go fun r s' h => ?_
    cases r with
    | error e => exact h
    | ok f => cases f <;> exact h
end
end Rv
/-! Methods with defaults, called by keywords or with no argument, where they may raise. -/
namespace Rv
open PySem PySem.Spec PyProof.Rows L2
/-- a method of a class, called with n values (the instance with them) and the keywords ks -/
structure CalTN (P : Program) (w : World) (K : PySem.W.Frag) (mg : Str → Option Value) (base : Heap) (CX : CXT) (k : Nat) (C : Addr) (m : Str) (ps : List Str) (sp : Sp) (n : Nat) (ks : List Str) (gV : List V → List V → List V) : Prop where
  ex : ∃ f fd g, FnOk P w K mg base CX k f fd ps sp ∧ Cls K C ∧ Meth K C m f ∧ KBn K fd ps n ks g gV
def tMethN (C : Addr) (m : Str) (n nk : Nat) (sp : Sp) (gV : List V → List V → List V) (E : L2.St → XK) (ta : TE) (t tk : TA) : TE := fun σ H Q => ta σ H fun x H1 => ∃ a dx fs, x = .ref a ∧ H1 a = some (.ins C dx fs) ∧ fs.lookup m = none ∧ t σ H1 fun vs H2 => tk σ H2 fun zs H3 => (x :: vs).length = n ∧ zs.length = nk ∧ sp (gV (x :: vs) zs) H3 Q (E σ)
theorem w_methN {C : Addr} {m : Str} {n nk : Nat} {sp : Sp} {gV : List V → List V → List V} {E : L2.St → XK} {ta : TE} {t tk : TA} {σ : L2.St} {H : Hp} {Q : VK} (q : ta σ H fun x H1 => ∃ a dx fs, x = .ref a ∧ H1 a = some (.ins C dx fs) ∧ fs.lookup m = none ∧ t σ H1 fun vs H2 => tk σ H2 fun zs H3 => (x :: vs).length = n ∧ zs.length = nk ∧ sp (gV (x :: vs) zs) H3 Q (E σ)) : tMethN C m n nk sp gV E ta t tk σ H Q := q
section
variable {X : Cx} {CX : CXT} {k n : Nat} {f C : Addr} {fd : FuncData} {ps ks : List Str} {sp : Sp} {E : L2.St → XK} {m : Str} {pos apos : Pos} {e o : Expr} {es : List Expr} {ta : TE} {t tk : TA} {kws : List Keyword} {g : List Value → List Value → List Value} {gV : List V → List V → List V}
theorem run_fnND {pins : List (Addr × Obj)} {σ : L2.St} {H : Hp} {s : Shared} {Q : VK} {us ws : List Value} {vs zs : List V} (F : FnOk X.prog X.w X.K X.mg X.base CX k f fd ps sp) (hr : Room k X.A) (hb : KBn X.K fd ps n ks g gV) (hx : PassesAt CX X σ (E σ))
    (I : Inv X pins σ H s) (r : Vals vs us) (rz : Vals zs ws) (l1 : vs.length = n) (l2 : zs.length = ks.length) (h : sp (gV vs zs) H Q (E σ)) : wpAny (model X.prog X.w) X.A (call (.ref f) us (ks.zip ws)) (EP X pins σ Q) X.xe s := by
  have r2 := hb.rel r rz
  refine wpAny_call (codeAny_mono (F.run X.A X.stack s H ⟨us, ks.zip ws⟩ (g us ws) (gV vs zs) Q (E σ) hr I.env0 (hb.to s us ws I.kIn (r.length.symm.trans l1) (rz.length.symm.trans l2)) r2 h) fun r s' hq => ?_)
  cases r with
  | error e => exact hx pins H s e s' I hq
  | ok fl =>
    cases fl with
    | ret u => exact I.after hq
    | next => exact False.elim hq
    | brk => exact False.elim hq
    | cont => exact False.elim hq
/-- o.m(k = v, ..) -/
theorem pe_methK {pl : Sem Bool} (c : CalTN X.prog X.w X.K X.mg X.base CX k C m ps sp 1 ks gV) (hr : Room k X.A) (hx : ∀ σ, PassesAt CX X σ (E σ)) (ho : PE X o ta) (hkw : PK X kws tk)
    (hall : (backToKw pos (keywordEach kws X.env)).all (·.1.isSome) = true := by rfl) (hks : (backToKw pos (keywordEach kws X.env)).filterMap (·.1) = ks := by rfl)
    (hpl : ((backTo pos (starEach [] X.env)).any (·.1) || (backToKw pos (keywordEach kws X.env)).any (·.1.isNone)) = false := by rfl)
    (ht : eval (.Call (.Attribute o m apos) [] kws pos) X.env = (do let ov ← eval o X.env; standAt apos.atName; let (f, first) ← holding [ov] (getMethod ov m pl); callWith pos f first (backTo pos (starEach [] X.env)) (backToKw pos (keywordEach kws X.env))) := by rfl)
    {nk : Nat} (hn : ks.length = nk := by rfl) : PE X (.Call (.Attribute o m apos) [] kws pos) (tMethN C m 1 nk sp gV E ta tNil tk) := by
  subst hn
  obtain ⟨f, fd, g, F, cl, hm, hb⟩ := c.ex
  refine ⟨fun pins s σ H Q I h => ?_⟩
  refine PySem.W.methodCall_KW (pl := pl) (thn (ho.run pins s σ H _ I h) fun u s1 ⟨x, H1, I1, rx, a, dx, fs, ex, ea, l, q⟩ => ?_) ht
  subst ex
  obtain rfl : u = Value.ref a := rx
  refine getmeth_ok I1 ea cl hm l ?_
  refine PySem.W.callWith_KW0 (first := [.ref a]) (h₀ := X.base) I.ok.mod.kin hm.kp hall ?_ hpl
  refine thn (hkw.run pos pins s1 σ H1 _ I1 q) fun ws s2 ⟨zs, H2, I2, rz, l1, l2, q2⟩ => ⟨I2.kIn, ?_⟩
  rw [hks]
  exact run_fnND (us := [.ref a]) (vs := [.ref a]) F hr hb (hx σ) I2 (.cons rfl .nil) rz rfl l2 q2
end
end Rv
namespace Rv
open PySem PySem.Spec PyProof.Rows L2
theorem passAt0 {X : Cx} : ∀ σ, PassesAt (L2.CX X.prog X.w) X σ ((fun _ => E0 : L2.St → XK) σ) := fun σ pins H s e s' I h => passE0 pins σ H s e s' I h
section
variable {X : Cx} {k k0 : Nat} {sp sp0 : Sp} {C : Addr}
theorem op_n3 {op : Operator} {id : String} {B : Builtin} (D : NumDec op id B) (c : CalO X.prog X.w X.K X.mg X.base CX0 k C (PySem.dunder op.info.2) sp) (c' : CalO X.prog X.w X.K X.mg X.base CX0 k0 C (PySem.dunderR op.info.2) sp0) (oc : OpC X.K C) (on : OpN X.K C op.info.2) (hsub : PySem.W.subIn X.K (.ref C) (.type "int") = some false) (hr : Room k X.A) (hr0 : Room k0 X.A) : OpR X (binaryOp op) (rAdd3 C sp sp0) := by
  intro pins s σ H x y v u Q I rx ry h
  rcases h with ⟨a, dx, fs, rfl, ha, sy, q⟩ | h
  · cases sy with
    | int i => exact op_ownI (E := E0) c oc on hr pass0 pins s σ H _ _ v u Q I rx ry ⟨a, dx, fs, i, rfl, ha, rfl, q⟩
    | @own b dy gs hb' =>
      cases (show v = Value.ref a from rx)
      cases (show u = Value.ref b from ry)
      obtain ⟨f, fd, F, hs, hf, hb⟩ := c.ex
      obtain ⟨mA, J, _⟩ := ins_get I.hok ha
      obtain ⟨od, J, _⟩ := J.look
      obtain ⟨mB, J', _⟩ := ins_get I.hok hb'
      obtain ⟨od', J', _⟩ := J'.look
      obtain ⟨m, hF⟩ := I.fr
      have go := run2 (E := E0) (y := .ref b) (u := .ref b) F hb pass0 hr I rfl q
      exact PySem.W.binop_K (op := op) hF I.ok.mod.kin J J'.type oc.sf hs hf go
  · exact op_rbin (E := E0) D c c' oc hsub hr0 pass0 pins s σ H _ _ v u Q I rx ry h
theorem op_n3Add (c : CalO X.prog X.w X.K X.mg X.base CX0 k C "__add__" sp) (c' : CalO X.prog X.w X.K X.mg X.base CX0 k0 C "__radd__" sp0) (oc : OpC X.K C) (on : OpN X.K C "add") (hsub : PySem.W.subIn X.K (.ref C) (.type "int") = some false) (hr : Room k X.A) (hr0 : Room k0 X.A) : OpR X (binaryOp .Add) (rAdd3 C sp sp0) :=
  op_n3 dec_add (by rw [show PySem.dunder (Operator.info .Add).2 = ("__add__" : Str) by decide +kernel]; exact c) (by rw [show PySem.dunderR (Operator.info .Add).2 = ("__radd__" : Str) by decide +kernel]; exact c') oc on hsub hr hr0
theorem op_n3Sub (c : CalO X.prog X.w X.K X.mg X.base CX0 k C "__sub__" sp) (c' : CalO X.prog X.w X.K X.mg X.base CX0 k0 C "__rsub__" sp0) (oc : OpC X.K C) (on : OpN X.K C "sub") (hsub : PySem.W.subIn X.K (.ref C) (.type "int") = some false) (hr : Room k X.A) (hr0 : Room k0 X.A) : OpR X (binaryOp .Sub) (rAdd3 C sp sp0) :=
  op_n3 dec_sub (by rw [show PySem.dunder (Operator.info .Sub).2 = ("__sub__" : Str) by decide +kernel]; exact c) (by rw [show PySem.dunderR (Operator.info .Sub).2 = ("__rsub__" : Str) by decide +kernel]; exact c') oc on hsub hr hr0
theorem op_n3Mult (c : CalO X.prog X.w X.K X.mg X.base CX0 k C "__mul__" sp) (c' : CalO X.prog X.w X.K X.mg X.base CX0 k0 C "__rmul__" sp0) (oc : OpC X.K C) (on : OpN X.K C "mul") (hsub : PySem.W.subIn X.K (.ref C) (.type "int") = some false) (hr : Room k X.A) (hr0 : Room k0 X.A) : OpR X (binaryOp .Mult) (rAdd3 C sp sp0) :=
  op_n3 dec_mul (by rw [show PySem.dunder (Operator.info .Mult).2 = ("__mul__" : Str) by decide +kernel]; exact c) (by rw [show PySem.dunderR (Operator.info .Mult).2 = ("__rmul__" : Str) by decide +kernel]; exact c') oc on hsub hr hr0
end
/-- no defaults: n given by place, the rest by keywords -/
theorem FunD.kb1 {K : PySem.W.Frag} {x qual : Str} {params : Arguments} {body : List Stmt} {scope : Scope} {kws : List (Str × V)} {f : Addr} {fd : FuncData} {ps : List Str} {n : Nat} (F : FunD K x qual params body scope [] kws f fd) (ks : List Str)
    (h : ∀ (kV doc pm : Value) (an : Option Addr) (cdv ct : Value) (us ws : List Value), us.length = n → ws.length = ks.length → bindArgs (PySem.W.fnOf x qual params body scope .none kV doc pm an cdv ct) ⟨us, ks.zip ws⟩ = pure (ps.zip (us ++ ws))) :
    KBn K fd ps n ks (fun us ws => us ++ ws) (fun vs zs => vs ++ zs) := by
  obtain ⟨oc, od, dV, kV, doc, pm, an, cdv, ct, osl, rfl, lk, hcd, hD, hK⟩ := F.ex
  rcases hD with ⟨_, rfl⟩ | ⟨e, _⟩
  · exact ⟨fun s us ws X l1 l2 => .of_eq (h kV doc pm an cdv ct us ws l1 l2), fun r1 r2 => r1.append r2⟩
  · exact absurd rfl e
def spBinI (f : Int → Int → Int → Int → Int) (K : PySem.W.Frag) (C : Addr) : Sp := fun vs H Q _ => ∃ (a : Addr) (i t b : Int), vs = [.ref a, .int i] ∧ RCls K C ∧ RatAt C H a t b ∧ Sz 3000 t ∧ Sz 3000 b ∧ Sz 3000 i ∧
  ∀ q H' x y, Same H H' → RatAt C H' q x y → Red (f t b i 1) (b * 1) x y → Q (.ref q) H'
def spRadd : PySem.W.Frag → Addr → Sp := spBinI fun t b n d => t * d + n * b
def spRmul : PySem.W.Frag → Addr → Sp := spBinI fun t _ n _ => t * n
def spRsub (K : PySem.W.Frag) (C CN : Addr) : Sp := fun vs H Q _ => ∃ (a : Addr) (i t b : Int), vs = [.ref a, .int i] ∧ RCls K C ∧ XN K CN ∧ RatAt C H a t b ∧ Sz 3000 t ∧ Sz 3000 b ∧ Sz 3000 i ∧
  ∀ q H' x y, Same H H' → RatAt C H' q x y → Red (-t * 1 + i * b) (b * 1) x y → Q (.ref q) H'
def spOverX (K : PySem.W.Frag) (C CN : Addr) : Sp := fun vs H Q E => ∃ a v t b o, vs = [.ref a, v] ∧ RCls K C ∧ XN K CN ∧ RatAt C H a t b ∧ NumK K C H v o ∧ Sz 3000 t ∧ Sz 3000 b ∧ SzO 3000 o ∧
  ((o = none ∨ ∃ d, o = some (0, d)) → Rz H CN v E) ∧ ∀ n d, o = some (n, d) → n ≠ 0 → ∀ q H', Same H H' → RatAt C H' q (zt (t * d) (b * n)) (zb (t * d) (b * n)) → Q (.ref q) H'
def spLWhole02 (K : PySem.W.Frag) : Sp := fun vs H Q _ => ∃ d : Addr, vs = [.ref d] ∧ RvM.PoolAt H d ∧ ∀ r H', r.natAbs ≤ 10 ^ 15 → But d H H' → RvM.PoolAt H' d → Q (.int r) H'
def spIs02 (K : PySem.W.Frag) (C : Addr) : Sp := fun vs H Q _ => ∃ q n d t b, vs = [.ref q, .int n, .int d] ∧ RCls K C ∧ RatAt C H q t b ∧ Sz 3000 n ∧ Sz 3000 d ∧ Sz 3000 t ∧ Sz 3000 b ∧ t * d = n * b ∧ Q (.bl true) H
def spSaid02 (K : PySem.W.Frag) (C CN : Addr) : Sp := fun vs H Q _ => ∃ a v y t b o, vs = [.ref a, v] ∧ RCls K C ∧ RKi K C ∧ XN K CN ∧ PySem.W.exmOne K (.ref CN) (.ref CN) = some true ∧ RatAt C H a t b ∧ Sz 3000 t ∧ Sz 3000 b ∧ Odd C H v y ∧ NumK K C H v o ∧ SzO 3000 o ∧ (o = none ∨ ∃ d, o = some (0, d)) ∧ ∀ H', Same H H' → Q (.str y) H'
def IsRef (v : V) : Prop := ∃ p, v = .ref p
def spRight02 (K : PySem.W.Frag) (C CN : Addr) : Sp := fun vs H Q _ => ∃ one two a b c d n1 d1 n2 d2, vs = [one, two, .int a, .int b, .int c, .int d] ∧ RCls K C ∧ XN K CN ∧ Num C H one n1 d1 ∧ Num C H two n2 d2 ∧ (IsRef one ∨ IsRef two) ∧ n1 * b = a * d1 ∧ n2 * d = c * d2 ∧ 0 < b ∧ 0 < d ∧
  Sz 100 a ∧ Sz 100 b ∧ Sz 100 c ∧ Sz 100 d ∧ Sz 100 n1 ∧ Sz 100 d1 ∧ Sz 100 n2 ∧ Sz 100 d2 ∧ ∀ H', Same H H' → Q (.bl true) H'
def spLaw02 (K : PySem.W.Frag) (C CN : Addr) : Sp := fun vs H Q _ => ∃ (a : Addr) (ns : List Int), vs = [.ref a] ∧ ns.length ≤ 63 ∧ SqL K H a (ns.map V.int) ∧ RCls K C ∧ RKi K C ∧ OdC K C ∧ XN K CN ∧ PySem.W.exmOne K (.ref CN) (.ref CN) = some true ∧ ∀ H', Q (.bl true) H'
def t_Ratio_overX (K : PySem.W.Frag) (C_Ratio : Addr) (C_InvalidNumber : Addr) (E : XK) : TS :=
  (tSeq (tAsg (tCall (spAsRX K C_Ratio) [] E0 (tCons (tVar 1) tNil)) (gName 2))
    (tSeq (tIfS (tOr (tTest (tOp oIsN (tVar 2) (tC .non))) (tTest (tOp rEq (tFld K (tVar 2) "reduced_top") (tC (.int 0))))) (tRaise (tMkO C_InvalidNumber (spExc K C_InvalidNumber "ValueError" "ValueError.__new__" "ValueError.__init__" bm_ValueError "value") [] (tCons (tVar 1) tNil)) E) tNext)
    (tRet (tMake C_Ratio (spRInitX K C_Ratio C_InvalidNumber) [] E0 (tCons (tOp oMulW (tFld K (tVar 0) "reduced_top") (tFld K (tVar 2) "reduced_bottom")) (tCons (tOp oMulW (tFld K (tVar 0) "reduced_bottom") (tFld K (tVar 2) "reduced_top")) tNil))))))
def t_Ratio___radd__ (K : PySem.W.Frag) (C_Ratio : Addr) : TS :=
  (tRet (tOp (rOwnI C_Ratio (spAdd K C_Ratio) E0) (tVar 0) (tVar 1)))
def t_Ratio___rsub__ (K : PySem.W.Frag) (C_Ratio : Addr) (C_InvalidNumber : Addr) : TS :=
  (tRet (tOp (rOwnI C_Ratio (spAdd K C_Ratio) E0) (tUn (rOwnU C_Ratio (spNegR K C_Ratio C_InvalidNumber) E0) (tVar 0)) (tVar 1)))
def t_Ratio___rmul__ (K : PySem.W.Frag) (C_Ratio : Addr) : TS :=
  (tRet (tOp (rOwnI C_Ratio (spMul K C_Ratio) E0) (tVar 0) (tVar 1)))
def t__law_whole02 (K : PySem.W.Frag) : TS :=
  (tSeq (tAsg (tOp (rIxL K) (tLst (tCons (tC (.int 5)) (tCons (tC (.int 100)) (tCons (tOp oPow (tC (.int 10)) (tC (.int 15))) tNil)))) (tCall (RvM.spTake K) [] E0 (tCons (tVar 0) (tCons (tC (.int 3)) tNil)))) (gName 1))
    (tRet (tOp oMul (tCall (RvM.spTake K) [] E0 (tCons (tVar 0) (tCons (tVar 1) tNil))) (tOp (rIxL K) (tLst (tCons (tC (.int 1)) (tCons (tUn (rU fun i => .int (-i)) (tC (.int 1))) tNil))) (tCall (RvM.spTake K) [] E0 (tCons (tVar 0) (tCons (tC (.int 2)) tNil)))))))
def t__law_is02 (K : PySem.W.Frag) (C_Ratio : Addr) : TS :=
  (tRet (tAndV (tCB (rIsi K) (tCons (tVar 0) (tCons (tC (.ref C_Ratio)) tNil))) (tAndV (tOp rEq (tOp oMulW (tProp C_Ratio (getSp C_Ratio "reduced_top") [] E0 (tVar 0)) (tVar 2)) (tOp oMulW (tVar 1) (tProp C_Ratio (getSp C_Ratio "reduced_bottom") [] E0 (tVar 0)))) (tOp oGt (tProp C_Ratio (getSp C_Ratio "reduced_bottom") [] E0 (tVar 0)) (tC (.int 0))))))
def t__law_said02 (K : PySem.W.Frag) (C_Ratio : Addr) (C_InvalidNumber : Addr) : TS :=
  (tSeq (tTryAs K (.ref C_InvalidNumber) 2 (fun W => (tDrop (tMethD C_Ratio "over" (spOverX K C_Ratio C_InvalidNumber) [] (WE W) (tVar 0) (tCons (tVar 1) tNil)))) (fun xa xcls xd => (tRet (tCB (cReprA K C_Ratio (spRRepr K C_Ratio)) (tCons (tXf xa xcls xd C_InvalidNumber "value" (tVar 2)) tNil)))) (fun _ _ _ _ => False))
    (tRet (tC (.str "done"))))
def t__law_right02 (K : PySem.W.Frag) (C_Ratio : Addr) (C_InvalidNumber : Addr) : TS :=
  (tSeq (tIfS (tOr (tNot (tB (tCall (spIs02 K C_Ratio) [] E0 (tCons (tOp (rAdd3 C_Ratio (spAdd K C_Ratio) (spRadd K C_Ratio)) (tVar 0) (tVar 1)) (tCons (tOp oAdd (tOp oMulW (tVar 2) (tVar 5)) (tOp oMulW (tVar 4) (tVar 3))) (tCons (tOp oMulW (tVar 3) (tVar 5)) tNil)))))) (tNot (tB (tCall (spIs02 K C_Ratio) [] E0 (tCons (tOp (rAdd3 C_Ratio (spAdd K C_Ratio) (spRadd K C_Ratio)) (tVar 1) (tVar 0)) (tCons (tOp oAdd (tOp oMulW (tVar 2) (tVar 5)) (tOp oMulW (tVar 4) (tVar 3))) (tCons (tOp oMulW (tVar 3) (tVar 5)) tNil))))))) (tRet (tC (.bl false))) tNext)
    (tSeq (tIfS (tOr (tNot (tB (tCall (spIs02 K C_Ratio) [] E0 (tCons (tOp (rAdd3 C_Ratio (spSub K C_Ratio) (spRsub K C_Ratio C_InvalidNumber)) (tVar 0) (tVar 1)) (tCons (tOp oSub (tOp oMulW (tVar 2) (tVar 5)) (tOp oMulW (tVar 4) (tVar 3))) (tCons (tOp oMulW (tVar 3) (tVar 5)) tNil)))))) (tNot (tB (tCall (spIs02 K C_Ratio) [] E0 (tCons (tOp (rAdd3 C_Ratio (spSub K C_Ratio) (spRsub K C_Ratio C_InvalidNumber)) (tVar 1) (tVar 0)) (tCons (tOp oSub (tOp oMulW (tVar 4) (tVar 3)) (tOp oMulW (tVar 2) (tVar 5))) (tCons (tOp oMulW (tVar 3) (tVar 5)) tNil))))))) (tRet (tC (.bl false))) tNext)
    (tSeq (tIfS (tOr (tNot (tB (tCall (spIs02 K C_Ratio) [] E0 (tCons (tOp (rAdd3 C_Ratio (spMul K C_Ratio) (spRmul K C_Ratio)) (tVar 0) (tVar 1)) (tCons (tOp oMulW (tVar 2) (tVar 4)) (tCons (tOp oMulW (tVar 3) (tVar 5)) tNil)))))) (tNot (tB (tCall (spIs02 K C_Ratio) [] E0 (tCons (tOp (rAdd3 C_Ratio (spMul K C_Ratio) (spRmul K C_Ratio)) (tVar 1) (tVar 0)) (tCons (tOp oMulW (tVar 2) (tVar 4)) (tCons (tOp oMulW (tVar 3) (tVar 5)) tNil))))))) (tRet (tC (.bl false))) tNext)
    (tRet (tOrV (tOp rEq (tVar 4) (tC (.int 0))) (tOrV (tNotV (tCB (rIsi K) (tCons (tVar 0) (tCons (tC (.ref C_Ratio)) tNil)))) (tCall (spIs02 K C_Ratio) [] E0 (tCons (tMeth C_Ratio "over" (spOverX K C_Ratio C_InvalidNumber) [] E0 (tVar 0) (tCons (tVar 1) tNil)) (tCons (tOp oMulW (tVar 2) (tVar 5)) (tCons (tOp oMulW (tVar 3) (tVar 4)) tNil))))))))))
def t_law02 (K : PySem.W.Frag) (C_Ratio : Addr) (C_InvalidNumber : Addr) : TS :=
  (tSeq (tFor (iRng1 (tCons (tCB cMax2 (tCons (tC (.int 1)) (tCons (tCB cMin2 (tCons (tC (.int 20)) (tCons (tCB (cLen K) (tCons (tVar 0) tNil)) tNil))) tNil))) tNil)) (gName 1) (tSeq (tAsg (tCall (RvM.spPool K) [] E0 (tCons (tVar 0) (tCons (tVar 1) tNil))) (gName 2))
    (tSeq (tPar 3 4 (tCons (tCall (spLWhole02 K) [] E0 (tCons (tVar 2) tNil)) (tCons (tCall (spLWhole02 K) [] E0 (tCons (tVar 2) tNil)) tNil)))
    (tSeq (tPar 5 6 (tCons (tOp oAdd (tC (.int 1)) (tCall (RvM.spTake K) [] E0 (tCons (tVar 2) (tCons (tC (.int 50)) tNil)))) (tCons (tOp oAdd (tC (.int 1)) (tCall (RvM.spTake K) [] E0 (tCons (tVar 2) (tCons (tOp oPow (tC (.int 10)) (tC (.int 12))) tNil)))) tNil)))
    (tSeq (tPar 7 8 (tCons (tMake C_Ratio (spRInit K C_Ratio) [] E0 (tCons (tVar 3) (tCons (tVar 5) tNil))) (tCons (tMake C_Ratio (spRInit K C_Ratio) [] E0 (tCons (tVar 4) (tCons (tVar 6) tNil))) tNil)))
    (tSeq (tAsg (tCB (cReprLO K C_Ratio (spRRepr K C_Ratio)) (tCons (tLst (tCons (tVar 7) (tCons (tVar 8) tNil))) tNil)) (gName 9))
    (tSeq (tIfS (tOr (tNot (tB (tCall (spRight02 K C_Ratio C_InvalidNumber) [] E0 (tCons (tVar 7) (tCons (tVar 8) (tCons (tVar 3) (tCons (tVar 5) (tCons (tVar 4) (tCons (tVar 6) tNil))))))))) (tNot (tB (tCall (spRight02 K C_Ratio C_InvalidNumber) [] E0 (tCons (tVar 7) (tCons (tVar 4) (tCons (tVar 3) (tCons (tVar 5) (tCons (tVar 4) (tCons (tC (.int 1)) tNil)))))))))) (tRet (tC (.bl false))) tNext)
    (tSeq (tIfS (tOr (tNot (tB (tCall (spRight02 K C_Ratio C_InvalidNumber) [] E0 (tCons (tVar 3) (tCons (tVar 8) (tCons (tVar 3) (tCons (tC (.int 1)) (tCons (tVar 4) (tCons (tVar 6) tNil))))))))) (tNot (tB (tCall (spRight02 K C_Ratio C_InvalidNumber) [] E0 (tCons (tVar 7) (tCons (tVar 7) (tCons (tVar 3) (tCons (tVar 5) (tCons (tVar 3) (tCons (tVar 5) tNil)))))))))) (tRet (tC (.bl false))) tNext)
    (tSeq (tIfS (tTest (tOp rNe (tCB (cReprLO K C_Ratio (spRRepr K C_Ratio)) (tCons (tLst (tCons (tVar 7) (tCons (tVar 8) tNil))) tNil)) (tVar 9))) (tRet (tC (.bl false))) tNext)
    (tFor (iList K (tLst (tCons (tC (.int 0)) (tCons (tMake C_Ratio (spRInit K C_Ratio) [.int 1] E0 (tCons (tC (.int 0)) tNil)) (tCons (tC .non) (tCons (tC (.str "1")) (tCons (tC (.bl true)) (tCons (tC (.bl false)) (tCons (tTup (tCons (tC (.int 1)) tNil)) (tCons (tLst (tCons (tC (.int 0)) tNil)) tNil)))))))))) (gName 10) (tIfS (tTest (tOp rNe (tCall (spSaid02 K C_Ratio C_InvalidNumber) [] E0 (tCons (tVar 7) (tCons (tVar 10) tNil))) (tCB (cReprA K C_Ratio (spRRepr K C_Ratio)) (tCons (tVar 10) tNil)))) (tRet (tC (.bl false))) tNext)))))))))))
    (tRet (tAndV (tCall (spIs02 K C_Ratio) [] E0 (tCons (tMethN C_Ratio "over" 1 1 (spOverX K C_Ratio C_InvalidNumber) (fun vs zs => vs ++ zs) (fun _ => E0) (tMake C_Ratio (spRInit K C_Ratio) [] E0 (tCons (tC (.int 1)) (tCons (tC (.int 2)) tNil))) tNil (tCons (tC (.int 3)) tNil)) (tCons (tC (.int 1)) (tCons (tC (.int 6)) tNil)))) (tCall (spIs02 K C_Ratio) [] E0 (tCons (tCB (cSumO K (rAdd3 C_Ratio (spAdd K C_Ratio) (spRadd K C_Ratio))) (tCons (tLst (tCons (tMake C_Ratio (spRInit K C_Ratio) [] E0 (tCons (tC (.int 1)) (tCons (tC (.int 2)) tNil))) (tCons (tMake C_Ratio (spRInit K C_Ratio) [] E0 (tCons (tC (.int 1)) (tCons (tC (.int 3)) tNil))) (tCons (tC (.int 1)) tNil)))) tNil)) (tCons (tC (.int 11)) (tCons (tC (.int 6)) tNil)))))))
local macro_rules | `(tactic| walk_at "rv st") => `(tactic| first
  | with_reducible refine iteT ?_ | with_reducible refine iteF ?_ | with_reducible refine w_nx ?_ | with_reducible refine w_yes ?_ | with_reducible refine w_rt ?_ | with_reducible refine iteNT ?_ | with_reducible refine iteNF ?_ | with_reducible refine iteNRf ?_ | with_reducible refine iteRf ?_ | with_reducible refine w_seqA ?_ | with_reducible refine w_seqD ?_ | with_reducible refine w_seqP ?_ | with_reducible refine w_asg ?_ | with_reducible refine w_ret ?_ | with_reducible refine w_drop ?_ | with_reducible refine w_ifs ?_ | with_reducible refine w_next ?_ | with_reducible refine w_par ?_
  | with_reducible refine w_op ?_ | with_reducible refine w_un ?_ | ((with_reducible show tVar _ _ _ _); refine' w_var ?hv ?_; (case hv => exact rfl)) | with_reducible refine w_c ?_ | with_reducible refine w_test ?_ | with_reducible refine w_tB ?_
  | with_reducible refine w_bl ?_ | with_reducible refine w_I0 ?_ | with_reducible refine w_U ?_ | with_reducible refine w_eqI ?_ | with_reducible refine w_neI ?_
  | with_reducible refine w_cons ?_ | with_reducible refine w_nil ?_ | with_reducible refine w_gn ?_ | with_reducible refine w_gsub ?_ | with_reducible refine w_and ?_ | with_reducible refine w_or ?_ | with_reducible refine w_not ?_
  | with_reducible refine w_andV ?_ | with_reducible refine w_orV ?_ | with_reducible refine w_notV ?_ | with_reducible refine w_if ?_ | with_reducible refine w_cb ?_ | with_reducible refine w_call ?_ | with_reducible refine w_lst ?_ | with_reducible refine w_tup ?_
  | with_reducible refine w_sl ?_ | with_reducible refine w_noPart ?_ | with_reducible refine w_part ?_ | with_reducible refine w_ex1 ?_ | with_reducible refine w_exb ?_ | with_reducible refine w_intB ?_ | with_reducible refine w_intI ?_ | with_reducible refine w_abs ?_)
local macro_rules | `(tactic| walk_at "rv ix") => `(tactic| ((with_reducible show rIxL _ _ _ _ _); refine' w_ixL (sq_lst ?ha) ?hb ?_; (case ha => first | exact upd_same | assumption); (case hb => first | exact rfl | assumption)))
local macro_rules | `(tactic| walk_at "rv ar") => `(tactic| first
  | (refine' w_I ?hc ?_; (case hc => first | (show (0 : Int) < _; first | assumption | decide | omega) | exact pow_c (by decide) (by decide) (by first | decide | omega) (by first | decide | omega) | exact mul_r (by first | decide | omega) (by first | decide | omega) | exact mul_l (by first | decide | omega) (by first | decide | omega) | exact divw (by first | assumption | decide | omega) (by first | assumption | decide | omega))))
local macro_rules | `(tactic| walk_at "rv go") => `(tactic| repeat first | walk_at "rv st" | walk_at "rv ix" | ((with_reducible show rI _ _ _ _ _ _); walk_at "rv ar"))
theorem p_raddI {K : PySem.W.Frag} {C : Addr} {vs : List V} {H : Hp} {Q : VK} {E : XK} (h : spRadd K C vs H Q E) : t_Ratio___radd__ K C { nx := fun _ H' => Q .non H', rt := Q } (start ["self", "other"] vs) H := by
  obtain ⟨a, i, t, b, rfl, R, hq, s1, s2, s3, k⟩ := h
  obtain ⟨l, dx, ha⟩ := id hq
  unfold t_Ratio___radd__
  walk_at "rv go"
  exact w_binI ha ⟨a, .int i, t, b, i, 1, rfl, R, hq, .inl ⟨rfl, rfl⟩, s1, s2, s3, sz_one (by decide), k⟩
theorem p_rmulI {K : PySem.W.Frag} {C : Addr} {vs : List V} {H : Hp} {Q : VK} {E : XK} (h : spRmul K C vs H Q E) : t_Ratio___rmul__ K C { nx := fun _ H' => Q .non H', rt := Q } (start ["self", "other"] vs) H := by
  obtain ⟨a, i, t, b, rfl, R, hq, s1, s2, s3, k⟩ := h
  obtain ⟨l, dx, ha⟩ := id hq
  unfold t_Ratio___rmul__
  walk_at "rv go"
  exact w_binI ha ⟨a, .int i, t, b, i, 1, rfl, R, hq, .inl ⟨rfl, rfl⟩, s1, s2, s3, sz_one (by decide), k⟩
theorem p_rsubI {K : PySem.W.Frag} {C CN : Addr} {vs : List V} {H : Hp} {Q : VK} {E : XK} (h : spRsub K C CN vs H Q E) : t_Ratio___rsub__ K C CN { nx := fun _ H' => Q .non H', rt := Q } (start ["self", "other"] vs) H := by
  obtain ⟨a, i, t, b, rfl, R, X, hq, s1, s2, s3, k⟩ := h
  obtain ⟨l, dx, ha⟩ := id hq
  unfold t_Ratio___rsub__
  walk_at "rv go"
  refine ⟨a, dx, _, rfl, ha, a, t, b, rfl, R, X.ox, X.no, hq, s2.mono (by decide), fun q H' e hn => ?_⟩
  obtain ⟨l', dx', hn'⟩ := id hn
  walk_at "rv go"
  exact w_binI hn' ⟨q, .int i, -t, b, i, 1, rfl, R, hn, .inl ⟨rfl, rfl⟩, (by unfold Sz at *; rw [Int.natAbs_neg]; exact s1), s2, s3, sz_one (by decide), fun q2 H2 x y e2 hr rd => k q2 H2 x y (e.trans e2) hr rd⟩
theorem p_overX {K : PySem.W.Frag} {C CN : Addr} {vs : List V} {H : Hp} {Q : VK} {E : XK} (h : spOverX K C CN vs H Q E) : t_Ratio_overX K C CN E { nx := fun _ H' => Q .non H', rt := Q } (start ["self", "other", "right"] vs) H := by
  obtain ⟨a, v, t, b, o, rfl, R, X, ha, hv, s1, s2, so, k1, k2⟩ := h
  unfold t_Ratio_overX
  walk_at "rv go"
  refine ⟨v, o, rfl, R, hv, fun eo => ?_, fun n d eo q H1 e hq => ?_⟩
  · refine w_seq ?_
    walk_at "rv go"
    refine ⟨rfl, ?_⟩
    rw [decide_eq_true rfl]
    walk_at "rv go"
    refine w_raise ?_
    refine w_mkO ?_
    walk_at "rv go"
    exact exc_newV X (k1 (.inl eo))
  · obtain ⟨s3, s4⟩ := so n d eo
    obtain ⟨l1, dx, ha'⟩ := ha.same e
    obtain ⟨l2, dy, hq'⟩ := id hq
    refine w_seq ?_
    walk_at "rv go"
    refine ⟨rfl, ?_⟩
    rw [decide_eq_false (show ¬ V.ref q = V.non from fun z => nomatch z)]
    walk_at "rv go"
    refine w_fld rfl hq' R.cl R.nT (rfl2_t _ _) ?_
    walk_at "rv go"
    by_cases z : n = 0
    · rw [decide_eq_true z]
      walk_at "rv go"
      refine w_raise ?_
      refine w_mkO ?_
      walk_at "rv go"
      exact exc_newV X ((k1 (.inr ⟨d, by rw [eo, z]⟩)).same e)
    · rw [decide_eq_false z]
      walk_at "rv go"
      refine w_make ?_
      walk_at "rv go"
      refine w_fld rfl ha' R.cl R.nT (rfl2_t _ _) ?_
      refine w_fld rfl hq' R.cl R.nB (rfl2_b _ _) ?_
      refine w_I (mulw s1 s4 (by decide) (by decide) (by decide)) ?_
      walk_at "rv go"
      refine w_fld rfl ha' R.cl R.nB (rfl2_b _ _) ?_
      refine w_fld rfl hq' R.cl R.nT (rfl2_t _ _) ?_
      refine w_I (mulw s2 s3 (by decide) (by decide) (by decide)) ?_
      walk_at "rv go"
      have pb := ha.1.1
      refine mk_ratX rfl R X.ox X.no (fun w => ?_) ((s2.mul s3).mono (by decide)) fun x H2 e2 hx => k2 n d eo z x H2 (e.trans e2) hx
      rcases Int.mul_eq_zero.mp w with w | w
      · omega
      · exact z w
theorem p_is02 {K : PySem.W.Frag} {C : Addr} {vs : List V} {H : Hp} {Q : VK} {E : XK} (h : spIs02 K C vs H Q E) : t__law_is02 K C { nx := fun _ H' => Q .non H', rt := Q } (start ["_law_ratio", "_law_top", "_law_bottom"] vs) H := by
  obtain ⟨q, n, d, t, b, rfl, R, hq, s1, s2, s3, s4, e, k⟩ := h
  obtain ⟨⟨pb, g⟩, dx, hq'⟩ := id hq
  unfold t__law_is02
  walk_at "rv go"
  refine isi_of (.own C) (.base (.ins hq' R.cl R.cA R.cG R.cT R.cM)) kit_self ?_
  walk_at "rv go"
  refine w_prop rfl hq' ?_
  refine ⟨q, dx, _, _, rfl, hq', rfl2_t _ _, ?_⟩
  walk_at "rv go"
  refine w_I (mulw s3 s2 (by decide) (by decide) (by decide)) ?_
  walk_at "rv go"
  refine w_prop rfl hq' ?_
  refine ⟨q, dx, _, _, rfl, hq', rfl2_b _ _, ?_⟩
  refine w_I (mulw s1 s4 (by decide) (by decide) (by decide)) ?_
  walk_at "rv go"
  rw [decide_eq_true e]
  walk_at "rv go"
  refine w_prop rfl hq' ?_
  refine ⟨q, dx, _, _, rfl, hq', rfl2_b _ _, ?_⟩
  walk_at "rv go"
  rw [decide_eq_true (show 0 < b from pb)]
  exact k
theorem p_said02 {K : PySem.W.Frag} {C CN : Addr} {vs : List V} {H : Hp} {Q : VK} {E : XK} (h : spSaid02 K C CN vs H Q E) : t__law_said02 K C CN { nx := fun _ H' => Q .non H', rt := Q } (start ["_law_one", "_law_two", "e"] vs) H := by
  obtain ⟨a, v, y, t, b, o, rfl, R, rk, X, em, ha, s1, s2, ov, hv, so, bad, k⟩ := h
  obtain ⟨l, dx, ha'⟩ := id ha
  unfold t__law_said02
  refine w_seq ?_
  refine st_is [some (.ref a), some v, none] rfl ?_
  show tDrop _ _ _ _
  walk_at "rv go"
  show tMethD _ _ _ _ _ _ _ _ _ _
  refine ⟨_, rfl, a, dx, _, rfl, ha', by (unfold rfl2; rw [lookup_putF, if_neg (by decide +kernel), lookup_putF, if_neg (by decide +kernel)]; rfl), ?_⟩
  walk_at "rv go"
  refine ⟨a, v, t, b, o, rfl, R, X, ha, hv, s1, s2, so, fun _ dd H1 nd e1 hd => ?_, fun n d eo hn => ?_⟩
  · refine ⟨true, em, fun _ e ne => ?_, fun z => nomatch z⟩
    walk_at "rv go"
    refine w_xf rfl hd rfl ?_
    walk_at "rv go"
    refine (ov.same e1).rp R ?_
    exact k H1 e1
  · rcases bad with h | ⟨d', h⟩
    · rw [h] at eo; cases eo
    · rw [h] at eo
      cases eo
      exact absurd rfl hn
theorem p_lwhole02 {K : PySem.W.Frag} {vs : List V} {H : Hp} {Q : VK} {E : XK} (h : spLWhole02 K vs H Q E) : t__law_whole02 K { nx := fun _ H' => Q .non H', rt := Q } (start ["_law_pool_here", "_law_size"] vs) H := by
  obtain ⟨d, rfl, P, k⟩ := h
  unfold t__law_whole02
  walk_at "rv go"
  refine ⟨szl (by show 3 ≤ 100000; decide), fun l nl => ?_⟩
  have e1 := same_new (o := .lst [.int 5, .int 100, .int (10 ^ Int.toNat 15)]) (Same.refl H) nl
  have ql : (upd H l (.lst [.int 5, .int 100, .int (10 ^ Int.toNat 15)])) l = some (.lst [.int 5, .int 100, .int (10 ^ Int.toNat 15)]) := upd_same
  generalize upd H l (.lst [.int 5, .int 100, .int (10 ^ Int.toNat 15)]) = H1 at e1 ql ⊢
  walk_at "rv go"
  have P1 := P.same e1
  refine RvM.take_call P1 (by decide) (by decide) fun r H2 r0 r1 b2 P2 => ?_
  have ql2 := b2 _ _ (P.nd nl) ql
  obtain ⟨sz, hsz, s1, s2, s3⟩ : ∃ sz : Int, atI ([.int 5, .int 100, .int (10 ^ Int.toNat 15)] : List V) r = some (.int sz) ∧ 0 < sz ∧ sz ≤ 10 ^ 15 ∧ sz < 2 ^ 200 := by
    rcases (show r = 0 ∨ r = 1 ∨ r = 2 by omega) with rfl | rfl | rfl
    · exact ⟨5, rfl, by decide, by decide, by decide⟩
    · exact ⟨100, rfl, by decide, by decide, by decide⟩
    · exact ⟨10 ^ Int.toNat 15, rfl, by decide, by decide, by decide⟩
  refine w_ixL (sq_lst ql2) hsz ?_
  walk_at "rv go"
  refine RvM.take_call P2 s1 s3 fun x H5 x0 x1 b5 P5 => ?_
  walk_at "rv go"
  refine ⟨szl (by show 2 ≤ 100000; decide), fun l2 nl2 => ?_⟩
  have e6 := same_new (o := .lst [.int 1, .int (-1)]) (Same.refl H5) nl2
  have ql6 : (upd H5 l2 (.lst [.int 1, .int (-1)])) l2 = some (.lst [.int 1, .int (-1)]) := upd_same
  have np2 : l2 ≠ d := P5.nd nl2
  generalize upd H5 l2 (.lst [.int 1, .int (-1)]) = H6 at e6 ql6 ⊢
  walk_at "rv go"
  refine RvM.take_call (P5.same e6) (by decide) (by decide) fun y H7 y0 y1 b7 P7 => ?_
  have ql7 := b7 _ _ np2 ql6
  obtain ⟨g, hg, g1⟩ : ∃ g : Int, atI ([.int 1, .int (-1)] : List V) y = some (.int g) ∧ g.natAbs = 1 := by
    rcases sg_of y0 y1 with rfl | rfl
    · exact ⟨1, rfl, rfl⟩
    · exact ⟨-1, rfl, rfl⟩
  refine w_ixL (sq_lst ql7) hg ?_
  have fin : Q (.int (x * g)) H7 := by
    refine k _ H7 ?_ ?_ P7
    · rw [Int.natAbs_mul, g1, Nat.mul_one]
      omega
    · exact ((((But.same e1).trans b2).trans b5).trans (But.same e6)).trans b7
  first
    | exact w_I (mul_r (by omega) (by omega)) fin
    | exact w_I (mul_l (by omega) (by omega)) fin
    | exact w_I (mulw (show Sz 100 x by exact Nat.lt_of_le_of_lt (m := 10 ^ 15) (by omega) (by decide)) (show Sz 2 g by unfold Sz; rw [g1]; decide) (by decide) (by decide) (by decide)) fin
/-- what an operator of two numbers gives: the fraction x / y with x * (d1 * d2) = N * y -/
def OutN (C : Addr) (H : Hp) (N D : Int) (Q : VK) : Prop := ∀ q H' x y, Same H H' → RatAt C H' q x y → x * D = N * y → y ≤ D → Sz 2000 x → Sz 2000 y → Q (.ref q) H'
theorem out_red {C : Addr} {H : Hp} {N D N' D' : Int} {Q : VK} (k : OutN C H N D Q) (eN : N' = N) (eD : D' = D) (sN : Sz 2000 N) (sD : Sz 2000 D) : ∀ q H' x y, Same H H' → RatAt C H' q x y → Red N' D' x y → Q (.ref q) H' := fun q H' x y e hr r => by
  subst eN
  subst eD
  exact k q H' x y e hr r.eq r.le (r.szt sN) (r.szb sD)
theorem snd_of {C : Addr} {H : Hp} {v : V} {n d : Int} (h : Num C H v n d) : Snd C H v := by
  rcases h with ⟨rfl, _⟩ | ⟨p, rfl, _, dx, hp⟩
  · exact .int n
  · exact .own hp
section
variable {K : PySem.W.Frag} {C CN : Addr} {H : Hp} {Q : VK} {one two : V} {n1 d1 n2 d2 : Int}
theorem sz_up {z : Int} {k : Nat} (h : Sz 900 z) (e : 900 ≤ k := by decide) : Sz k z := h.mono e
theorem w_add3 (R : RCls K C) (h1 : Num C H one n1 d1) (h2 : Num C H two n2 d2) (r : IsRef one ∨ IsRef two) (s1 : Sz 900 n1) (s2 : Sz 900 d1) (s3 : Sz 900 n2) (s4 : Sz 900 d2) (k : OutN C H (n1 * d2 + n2 * d1) (d1 * d2) Q) : rAdd3 C (spAdd K C) (spRadd K C) one two H Q := by
  have sN : Sz 2000 (n1 * d2 + n2 * d1) := ((s1.mul s4).add (s3.mul s2)).mono (by decide)
  have sD : Sz 2000 (d1 * d2) := (s2.mul s4).mono (by decide)
  rcases h1 with ⟨rfl, rfl⟩ | ⟨p, rfl, hp⟩
  · rcases h2 with ⟨rfl, rfl⟩ | ⟨p, rfl, hp⟩
    · rcases r with ⟨p, e⟩ | ⟨p, e⟩ <;> cases e
    · obtain ⟨l, dx, hp'⟩ := id hp
      exact .inr ⟨n1, p, dx, _, rfl, rfl, hp', p, n1, n2, d2, rfl, R, hp, sz_up s3, sz_up s4, sz_up s1, out_red k (by rw [Int.add_comm]) (Int.mul_comm _ _) sN sD⟩
  · obtain ⟨l, dx, hp'⟩ := id hp
    exact .inl ⟨p, dx, _, rfl, hp', snd_of h2, p, two, n1, d1, n2, d2, rfl, R, hp, h2, sz_up s1, sz_up s2, sz_up s3, sz_up s4, out_red k rfl rfl sN sD⟩
theorem w_sub3 (R : RCls K C) (X : XN K CN) (h1 : Num C H one n1 d1) (h2 : Num C H two n2 d2) (r : IsRef one ∨ IsRef two) (s1 : Sz 900 n1) (s2 : Sz 900 d1) (s3 : Sz 900 n2) (s4 : Sz 900 d2) (k : OutN C H (n1 * d2 - n2 * d1) (d1 * d2) Q) : rAdd3 C (spSub K C) (spRsub K C CN) one two H Q := by
  have sN : Sz 2000 (n1 * d2 - n2 * d1) := ((s1.mul s4).sub (s3.mul s2)).mono (by decide)
  have sD : Sz 2000 (d1 * d2) := (s2.mul s4).mono (by decide)
  rcases h1 with ⟨rfl, rfl⟩ | ⟨p, rfl, hp⟩
  · rcases h2 with ⟨rfl, rfl⟩ | ⟨p, rfl, hp⟩
    · rcases r with ⟨p, e⟩ | ⟨p, e⟩ <;> cases e
    · obtain ⟨l, dx, hp'⟩ := id hp
      exact .inr ⟨n1, p, dx, _, rfl, rfl, hp', p, n1, n2, d2, rfl, R, X, hp, sz_up s3, sz_up s4, sz_up s1, out_red k (by omega) (Int.mul_comm _ _) sN sD⟩
  · obtain ⟨l, dx, hp'⟩ := id hp
    exact .inl ⟨p, dx, _, rfl, hp', snd_of h2, p, two, n1, d1, n2, d2, rfl, R, hp, h2, sz_up s1, sz_up s2, sz_up s3, sz_up s4, out_red k rfl rfl sN sD⟩
theorem w_mul3 (R : RCls K C) (h1 : Num C H one n1 d1) (h2 : Num C H two n2 d2) (r : IsRef one ∨ IsRef two) (s1 : Sz 900 n1) (s2 : Sz 900 d1) (s3 : Sz 900 n2) (s4 : Sz 900 d2) (k : OutN C H (n1 * n2) (d1 * d2) Q) : rAdd3 C (spMul K C) (spRmul K C) one two H Q := by
  have sN : Sz 2000 (n1 * n2) := (s1.mul s3).mono (by decide)
  have sD : Sz 2000 (d1 * d2) := (s2.mul s4).mono (by decide)
  rcases h1 with ⟨rfl, rfl⟩ | ⟨p, rfl, hp⟩
  · rcases h2 with ⟨rfl, rfl⟩ | ⟨p, rfl, hp⟩
    · rcases r with ⟨p, e⟩ | ⟨p, e⟩ <;> cases e
    · obtain ⟨l, dx, hp'⟩ := id hp
      exact .inr ⟨n1, p, dx, _, rfl, rfl, hp', p, n1, n2, d2, rfl, R, hp, sz_up s3, sz_up s4, sz_up s1, out_red k (Int.mul_comm _ _) (Int.mul_comm _ _) sN sD⟩
  · obtain ⟨l, dx, hp'⟩ := id hp
    exact .inl ⟨p, dx, _, rfl, hp', snd_of h2, p, two, n1, d1, n2, d2, rfl, R, hp, h2, sz_up s1, sz_up s2, sz_up s3, sz_up s4, out_red k rfl rfl sN sD⟩
end
theorem canc {x y z : Int} (hz : 0 < z) (h : x * z = y * z) : x = y := Int.eq_of_mul_eq_mul_right (by omega) h
theorem fr_add {a b c d n1 d1 n2 d2 x y : Int} (h1 : n1 * b = a * d1) (h2 : n2 * d = c * d2) (p : 0 < d1 * d2) (e : x * (d1 * d2) = (n1 * d2 + n2 * d1) * y) : x * (b * d) = (a * d + c * b) * y := by
  refine canc p ?_
  grind
theorem fr_sub {a b c d n1 d1 n2 d2 x y : Int} (h1 : n1 * b = a * d1) (h2 : n2 * d = c * d2) (p : 0 < d1 * d2) (e : x * (d1 * d2) = (n1 * d2 - n2 * d1) * y) : x * (b * d) = (a * d - c * b) * y := by
  refine canc p ?_
  grind
theorem fr_mul {a b c d n1 d1 n2 d2 x y : Int} (h1 : n1 * b = a * d1) (h2 : n2 * d = c * d2) (p : 0 < d1 * d2) (e : x * (d1 * d2) = (n1 * n2) * y) : x * (b * d) = (a * c) * y := by
  refine canc p ?_
  grind
theorem fr_over {a b c d n1 d1 n2 d2 x y : Int} (h1 : n1 * b = a * d1) (h2 : n2 * d = c * d2) (p : d1 * n2 ≠ 0) (q : d2 ≠ 0) (e : x * (d1 * n2) = (n1 * d2) * y) : x * (b * c) = (a * d) * y := by
  refine Int.eq_of_mul_eq_mul_right (a := (d1 * n2) * d2) (Int.mul_ne_zero p q) ?_
  grind
theorem numK_of {K : PySem.W.Frag} {C : Addr} {H : Hp} {v : V} {n d : Int} (h : Num C H v n d) : NumK K C H v (some (n, d)) := by
  rcases h with ⟨rfl, rfl⟩ | ⟨p, rfl, hp⟩
  · exact .int n
  · exact .rat hp
theorem z_eq {n d : Int} (h : d ≠ 0) : zt n d * d = n * zb n d := by
  have e := (zred (n := n) h).eq
  unfold zd zn at e
  split at e
  · rw [Int.mul_neg, Int.neg_mul] at e
    omega
  · exact e
theorem p_right02 {K : PySem.W.Frag} {C CN : Addr} {vs : List V} {H : Hp} {Q : VK} {E : XK} (h : spRight02 K C CN vs H Q E) : t__law_right02 K C CN { nx := fun _ H' => Q .non H', rt := Q } (start ["_law_one", "_law_two", "_law_a", "_law_b", "_law_c", "_law_d"] vs) H := by
  obtain ⟨one, two, a, b, c, d, n1, d1, n2, d2, rfl, R, X, h1, h2, ir, e1, e2, pb, pd, sa, sb, sc, sd, sn1, sd1, sn2, sd2, k⟩ := h
  have p1 := h1.pos
  have p2 := h2.pos
  have pp : 0 < d1 * d2 := Int.mul_pos p1 p2
  have pp' : 0 < d2 * d1 := Int.mul_pos p2 p1
  have M : ∀ {x y : Int}, Sz 100 x → Sz 100 y → CMulW x y := fun h g => mulw h g (by decide) (by decide) (by decide)
  have sum2 : ∀ {x y z w : Int}, Sz 100 x → Sz 100 y → Sz 100 z → Sz 100 w → Sz 3000 (x * y + z * w) := fun h g i j => ((h.mul g).add (i.mul j)).mono (by decide)
  have dif2 : ∀ {x y z w : Int}, Sz 100 x → Sz 100 y → Sz 100 z → Sz 100 w → Sz 3000 (x * y - z * w) := fun h g i j => ((h.mul g).sub (i.mul j)).mono (by decide)
  have pr2 : ∀ {x y : Int}, Sz 100 x → Sz 100 y → Sz 3000 (x * y) := fun h g => (h.mul g).mono (by decide)
  have u : ∀ {x : Int}, Sz 100 x → Sz 900 x := fun h => h.mono (by decide)
  unfold t__law_right02
  -- one + two, two + one
  refine w_seq ?_
  walk_at "rv go"
  refine w_add3 R h1 h2 ir (u sn1) (u sd1) (u sn2) (u sd2) fun q H1 x y f1 hr eq _ sx sy => ?_
  walk_at "rv go"
  refine w_I (M sa sd) ?_
  walk_at "rv go"
  refine w_I (M sc sb) ?_
  walk_at "rv go"
  refine w_I (M sb sd) ?_
  walk_at "rv go"
  refine ⟨q, _, _, x, y, rfl, R, hr, sum2 sa sd sc sb, pr2 sb sd, sx.mono (by decide), sy.mono (by decide), fr_add e1 e2 pp eq, ?_⟩
  clear hr eq sx sy
  walk_at "rv go"
  refine w_add3 R (h2.same f1) (h1.same f1) ir.symm (u sn2) (u sd2) (u sn1) (u sd1) fun q H2 x y f2 hr eq _ sx sy => ?_
  walk_at "rv go"
  refine w_I (M sa sd) ?_
  walk_at "rv go"
  refine w_I (M sc sb) ?_
  walk_at "rv go"
  refine w_I (M sb sd) ?_
  walk_at "rv go"
  refine ⟨q, _, _, x, y, rfl, R, hr, sum2 sa sd sc sb, pr2 sb sd, sx.mono (by decide), sy.mono (by decide), by rw [Int.mul_comm b d, Int.add_comm (a * d)]; exact fr_add e2 e1 pp' eq, ?_⟩
  clear hr eq sx sy
  have f2 := f1.trans f2
  walk_at "rv go"
  -- one - two, two - one
  refine w_seq ?_
  walk_at "rv go"
  refine w_sub3 R X (h1.same f2) (h2.same f2) ir (u sn1) (u sd1) (u sn2) (u sd2) fun q H3 x y f3 hr eq _ sx sy => ?_
  walk_at "rv go"
  refine w_I (M sa sd) ?_
  walk_at "rv go"
  refine w_I (M sc sb) ?_
  walk_at "rv go"
  refine w_I (M sb sd) ?_
  walk_at "rv go"
  refine ⟨q, _, _, x, y, rfl, R, hr, dif2 sa sd sc sb, pr2 sb sd, sx.mono (by decide), sy.mono (by decide), fr_sub e1 e2 pp eq, ?_⟩
  clear hr eq sx sy
  have f3 := f2.trans f3
  walk_at "rv go"
  refine w_sub3 R X (h2.same f3) (h1.same f3) ir.symm (u sn2) (u sd2) (u sn1) (u sd1) fun q H4 x y f4 hr eq _ sx sy => ?_
  walk_at "rv go"
  refine w_I (M sc sb) ?_
  walk_at "rv go"
  refine w_I (M sa sd) ?_
  walk_at "rv go"
  refine w_I (M sb sd) ?_
  walk_at "rv go"
  refine ⟨q, _, _, x, y, rfl, R, hr, dif2 sc sb sa sd, pr2 sb sd, sx.mono (by decide), sy.mono (by decide), by rw [Int.mul_comm b d]; exact fr_sub e2 e1 pp' eq, ?_⟩
  clear hr eq sx sy
  have f4 := f3.trans f4
  walk_at "rv go"
  -- one * two, two * one
  refine w_seq ?_
  walk_at "rv go"
  refine w_mul3 R (h1.same f4) (h2.same f4) ir (u sn1) (u sd1) (u sn2) (u sd2) fun q H5 x y f5 hr eq _ sx sy => ?_
  walk_at "rv go"
  refine w_I (M sa sc) ?_
  walk_at "rv go"
  refine w_I (M sb sd) ?_
  walk_at "rv go"
  refine ⟨q, _, _, x, y, rfl, R, hr, pr2 sa sc, pr2 sb sd, sx.mono (by decide), sy.mono (by decide), fr_mul e1 e2 pp eq, ?_⟩
  clear hr eq sx sy
  have f5 := f4.trans f5
  walk_at "rv go"
  refine w_mul3 R (h2.same f5) (h1.same f5) ir.symm (u sn2) (u sd2) (u sn1) (u sd1) fun q H6 x y f6 hr eq _ sx sy => ?_
  walk_at "rv go"
  refine w_I (M sa sc) ?_
  walk_at "rv go"
  refine w_I (M sb sd) ?_
  walk_at "rv go"
  refine ⟨q, _, _, x, y, rfl, R, hr, pr2 sa sc, pr2 sb sd, sx.mono (by decide), sy.mono (by decide), by rw [Int.mul_comm b d, Int.mul_comm a c]; exact fr_mul e2 e1 pp' eq, ?_⟩
  clear hr eq sx sy
  have f6 := f5.trans f6
  walk_at "rv go"
  by_cases z : c = 0
  · rw [decide_eq_true z]
    walk_at "rv go"
    exact k H6 f6
  rw [decide_eq_false z]
  walk_at "rv go"
  have h16 := h1.same f6
  have h26 := h2.same f6
  have n20 : n2 ≠ 0 := fun w => by
    rw [w, Int.zero_mul] at e2
    rcases Int.mul_eq_zero.mp e2.symm with w | w <;> omega
  rcases h16 with ⟨rfl, rfl⟩ | ⟨p, rfl, hp⟩
  · refine isi_of (.own C) (.base (.int n1)) R.ki ?_
    walk_at "rv go"
    exact k H6 f6
  · obtain ⟨l, dx, hp'⟩ := id hp
    refine isi_of (.own C) (.base (.ins hp' R.cl R.cA R.cG R.cT R.cM)) kit_self ?_
    walk_at "rv go"
    refine w_meth ?_
    walk_at "rv go"
    refine ⟨p, dx, _, rfl, hp', rfl2_over _ _, ?_⟩
    walk_at "rv go"
    refine ⟨p, two, n1, d1, some (n2, d2), rfl, R, X, hp, numK_of h26, sn1.mono (by decide), sd1.mono (by decide), (fun n d e => by cases e; exact ⟨sn2.mono (by decide), sd2.mono (by decide)⟩), (fun w => by
      rcases w with w | ⟨_, w⟩
      · cases w
      · cases w; exact absurd rfl n20), fun n d' e hn q H7 f7 hr => ?_⟩
    cases e
    have D0 : d1 * n2 ≠ 0 := Int.mul_ne_zero (by omega) n20
    have ez := z_eq (n := n1 * d2) D0
    have zl := z_le (n := n1 * d2) D0
    have sx : Sz 3000 (zt (n1 * d2) (d1 * n2)) := Nat.lt_of_le_of_lt zl.1 (pr2 sn1 sd2)
    have sy : Sz 3000 (zb (n1 * d2) (d1 * n2)) := Nat.lt_of_le_of_lt zl.2 (pr2 sd1 sn2)
    walk_at "rv go"
    refine w_I (M sa sd) ?_
    walk_at "rv go"
    refine w_I (M sb sc) ?_
    walk_at "rv go"
    exact ⟨q, _, _, _, _, rfl, R, hr, pr2 sa sd, pr2 sb sc, sx, sy, fr_over e1 e2 D0 (by omega) ez, k H7 (f6.trans f7)⟩
theorem rtext_len {t b : Int} (ht : t.natAbs < 10 ^ 40) (hb : b.natAbs < 10 ^ 40) : (rtext t b).length ≤ 91 := by
  have z1 := big_text ht
  have z2 := big_text hb
  have l1 : ("Ratio(" : Str).length = 6 := by decide +kernel
  unfold rtext
  rw [str_len, str_len, str_len, str_len, l1, len_p2, len_p3]
  show 6 + (Str.ofString (toString t)).length + 2 + (Str.ofString (toString b)).length + 1 ≤ _
  omega
theorem list2_len {x y : Str} (hx : x.length ≤ 91) (hy : y.length ≤ 91) : (listText [x, y]).length ≤ sizeLine := by
  have sb := sizeLine_big
  have e : (listText [x, y]).length = ((((("[" : Str) ++ (if (0 : Nat) > 0 then ", " else "" : String)) ++ x) ++ (if (0 + 1 : Nat) > 0 then ", " else "" : String)) ++ y).length + 1 := by
    show (_ ++ "]" : Str).length = _
    rw [strLen_append]
    rfl
  rw [e, strLen_append, strLen_append, strLen_append, strLen_append]
  have l1 : (("[" : String) : Str).length = 1 := rfl
  have l2 : ((if (0 : Nat) > 0 then ", " else "" : String) : Str).length = 0 := rfl
  have l3 : ((if (0 + 1 : Nat) > 0 then ", " else "" : String) : Str).length = 2 := rfl
  omega
theorem rep_item {K : PySem.W.Frag} {C : Addr} {H : Hp} {x : Addr} {t b : Int} (R : RCls K C) (h : RatAt C H x t b) (ht : t.natAbs < 10 ^ 40) (hb : b.natAbs < 10 ^ 40) : RepO C (spRRepr K C) H (.ref x) (rtext t b) := by
  obtain ⟨l, dx, h'⟩ := id h
  exact ⟨x, dx, _, rfl, h', x, t, b, rfl, R, h, ht, hb, rfl, rfl⟩
theorem rep_two {K : PySem.W.Frag} {C : Addr} {H : Hp} {Q : VK} {l x1 x2 : Addr} {t1 b1 t2 b2 : Int} (R : RCls K C) (hl : H l = some (.lst [.ref x1, .ref x2])) (h1 : RatAt C H x1 t1 b1) (h2 : RatAt C H x2 t2 b2) (a1 : t1.natAbs < 10 ^ 40) (a2 : b1.natAbs < 10 ^ 40) (a3 : t2.natAbs < 10 ^ 40) (a4 : b2.natAbs < 10 ^ 40)
    (q : Q (.str (listText [rtext t1 b1, rtext t2 b2])) H) : cReprLO K C (spRRepr K C) [.ref l] H Q := by
  refine ⟨l, .ref x1, [.ref x2], [rtext t1 b1, rtext t2 b2], rfl, sq_lst hl, rfl, fun i y t hy ht => ?_, list2_len (rtext_len a1 a2) (rtext_len a3 a4), q⟩
  match i, hy, ht with
  | 0, hy, ht =>
    obtain rfl := Option.some.inj hy
    obtain rfl := Option.some.inj ht
    exact rep_item R h1 a1 a2
  | 1, hy, ht =>
    obtain rfl := Option.some.inj hy
    obtain rfl := Option.some.inj ht
    exact rep_item R h2 a3 a4
/-- a value that over refuses -/
def Bd (K : PySem.W.Frag) (C : Addr) (H : Hp) (x : V) : Prop := ∃ y o, Odd C H x y ∧ NumK K C H x o ∧ SzO 3000 o ∧ (o = none ∨ ∃ d, o = some (0, d))
theorem Bd.same {K : PySem.W.Frag} {C : Addr} {H H' : Hp} {x : V} (h : Bd K C H x) (e : Same H H') : Bd K C H' x := by
  obtain ⟨y, o, h1, h2, h3, h4⟩ := h
  exact ⟨y, o, h1.same e, h2.same e, h3, h4⟩
theorem bd_all {K : PySem.W.Frag} {C : Addr} {H : Hp} {t l q : Addr} {v : Int} (O : OdC K C) (h1 : H t = some (.tup [.int 1])) (h2 : H l = some (.lst [.int 0])) (h3 : RatAt C H q 0 v) (hv : v.natAbs < 10 ^ 40) :
    ∀ (m : Nat) (x : V), ([.int 0, .ref q, .non, .str "1", .bl true, .bl false, .ref t, .ref l] : List V)[m]? = some x → Bd K C H x := fun m x hx => by
  have none' : SzO 3000 none := fun n d e => nomatch e
  match m, hx with
  | 0, hx => obtain rfl := Option.some.inj hx; exact ⟨_, _, .int 0 (by decide), .int 0, (fun n d e => by cases e; exact ⟨sz_lit (M := 0) (by decide), sz_one (by decide)⟩), .inr ⟨1, rfl⟩⟩
  | 1, hx => obtain rfl := Option.some.inj hx; exact ⟨_, _, .rat 0 v h3 (by decide) hv, .rat h3, (fun n d e => by cases e; exact ⟨sz_lit (M := 0) (by decide), (sz40 hv).mono (by decide)⟩), .inr ⟨v, rfl⟩⟩
  | 2, hx => obtain rfl := Option.some.inj hx; exact ⟨_, _, .non, .other (.base .non) (O.ki "NoneType" (by simp)) (.other (.base .non) (kit_ty (by decide +kernel)) fun i z => nomatch z) rfl, none', .inl rfl⟩
  | 3, hx => obtain rfl := Option.some.inj hx; exact ⟨_, _, .str "1" (by decide +kernel) (by decide +kernel), .other (.base (.str _)) (O.ki "str" (by simp)) (.other (.base (.str _)) (kit_ty (by decide +kernel)) fun i z => nomatch z) rfl, none', .inl rfl⟩
  | 4, hx => obtain rfl := Option.some.inj hx; exact ⟨_, _, .bl true, .other (.base (.bl _)) (O.ki "bool" (by simp)) (.bl _) rfl, none', .inl rfl⟩
  | 5, hx => obtain rfl := Option.some.inj hx; exact ⟨_, _, .bl false, .other (.base (.bl _)) (O.ki "bool" (by simp)) (.bl _) rfl, none', .inl rfl⟩
  | 6, hx => obtain rfl := Option.some.inj hx; exact ⟨_, _, .tup [1] h1 (by decide) (by decide) (by decide +kernel) (by decide +kernel), .other (.base (.tup h1)) (O.ki "tuple" (by simp)) (.other (.base (.tup h1)) (kit_ty (by decide +kernel)) fun i z => nomatch z) rfl, none', .inl rfl⟩
  | 7, hx => obtain rfl := Option.some.inj hx; exact ⟨_, _, .lst [0] h2 (by decide) (by decide) (by decide +kernel) (by decide +kernel), .other (.base (.lst h2)) (O.ki "list" (by simp)) (.other (.base (.lst h2)) (kit_ty (by decide +kernel)) fun i z => nomatch z) rfl, none', .inl rfl⟩
theorem p_law02 {K : PySem.W.Frag} {C CN : Addr} {vs : List V} {H : Hp} {Q : VK} {E : XK} (h : spLaw02 K C CN vs H Q E) : t_law02 K C CN { nx := fun _ H' => Q .non H', rt := Q } (start ["_law_script", "_law_k", "_law_pool_here", "_law_a", "_law_c", "_law_b", "_law_d", "_law_one", "_law_two", "_law_before", "_law_odd"] vs) H := by
  obtain ⟨a0, ns, rfl, hl63, hS, R, rk, O, X, em, k⟩ := h
  unfold t_law02
  refine w_seq ?_
  refine RvM.w_forI ?_
  walk_at "rv go"
  refine w_lenL hS ?_
  walk_at "rv go"
  rw [List.length_map]
  refine ⟨20, _, rfl, ?_⟩
  walk_at "rv go"
  refine ⟨1, _, rfl, ?_⟩
  walk_at "rv go"
  obtain ⟨j, hj, j20⟩ : ∃ j : Int, j = (if (if (ns.length : Int) < 20 then (ns.length : Int) else 20) > 1 then (if (ns.length : Int) < 20 then (ns.length : Int) else 20) else 1) ∧ 1 ≤ j ∧ j ≤ 20 := ⟨_, rfl, by split <;> split <;> omega⟩
  rw [← hj]
  refine ⟨j, rfl, by omega, by omega, ?_⟩
  refine RvM.w_forRn (fun _ σ' H' => Same H H' ∧ ∃ o1 o2 o3 o4 o5 o6 o7 o8 o9 o10, σ' = [some (.ref a0), o1, o2, o3, o4, o5, o6, o7, o8, o9, o10]) ⟨Same.refl H, _, _, _, _, _, _, _, _, _, _, rfl⟩ ?_ ?_
  · rintro i σ' H1 hi ⟨e1, o1, o2, o3, o4, o5, o6, o7, o8, o9, o10, rfl⟩
    walk_at "rv go"
    refine ⟨a0, ns, i, rfl, e1.seq hS, hl63, by omega, fun p H2 np e2 P2 => ?_⟩
    walk_at "rv go"
    refine ⟨p, rfl, P2, fun a H3 ha b3 P3 => ?_⟩
    walk_at "rv go"
    refine ⟨p, rfl, P3, fun c H4 hc b4 P4 => ?_⟩
    walk_at "rv go"
    refine ⟨_, _, rfl, ?_⟩
    walk_at "rv go"
    refine RvM.take_call P4 (by decide) (by decide) fun rb H5 rb0 rb1 b5 P5 => ?_
    walk_at "rv go"
    obtain ⟨b, hb⟩ : ∃ b : Int, b = 1 + rb := ⟨_, rfl⟩
    rw [← hb]
    refine RvM.take_call P5 (by decide) (by decide) fun rd H6 rd0 rd1 b6 P6 => ?_
    have rd1' : rd < 1000000000000 := rd1
    walk_at "rv go"
    obtain ⟨d, hd⟩ : ∃ d : Int, d = 1 + rd := ⟨_, rfl⟩
    rw [← hd]
    refine ⟨_, _, rfl, ?_⟩
    walk_at "rv go"
    have e6 : Same H H6 := e1.trans (RvM.same_but e2 np (((b3.trans b4).trans b5).trans b6))
    clear e1 e2 b3 b4 b5 b6 P2 P3 P4 P5 P6
    have sa : Sz 100 a := Nat.lt_of_le_of_lt ha (by decide)
    have sc : Sz 100 c := Nat.lt_of_le_of_lt hc (by decide)
    have sb : Sz 100 b := Nat.lt_of_le_of_lt (m := 50) (by omega) (by decide)
    have sd : Sz 100 d := Nat.lt_of_le_of_lt (m := 1000000000000) (by omega) (by decide)
    refine w_make ?_
    walk_at "rv go"
    refine mk_rat rfl R (show 0 < b by omega) (sb.mono (by decide)) fun x1 H7 u1 v1 e7 r1 hr1 => ?_
    walk_at "rv go"
    refine w_make ?_
    walk_at "rv go"
    refine mk_rat rfl R (show 0 < d by omega) (sd.mono (by decide)) fun x2 H8 u2 v2 e8 r2 hr2 => ?_
    walk_at "rv go"
    refine ⟨_, _, rfl, ?_⟩
    have hr1 := hr1.same e8
    have e8 := (e6.trans e7).trans e8
    clear e6 e7
    have b40 : ∀ {z : Int}, Sz 100 z → z.natAbs < 10 ^ 40 := fun h => Nat.lt_of_lt_of_le h (by decide)
    have su1 := r1.szt sa
    have sv1 := r1.szb sb
    have su2 := r2.szt sc
    have sv2 := r2.szb sd
    refine st_is [some (.ref a0), some (.int (i : Int)), some (.ref p), some (.int a), some (.int c), some (.int b), some (.int d), some (.ref x1), some (.ref x2), o9, o10] rfl ?_
    walk_at "rv go"
    refine ⟨szl (by show 2 ≤ 100000; decide), fun l nl => ?_⟩
    have e9 := same_new (o := .lst [.ref x1, .ref x2]) (Same.refl H8) nl
    have hl : (upd H8 l (.lst [.ref x1, .ref x2])) l = some (.lst [.ref x1, .ref x2]) := upd_same
    generalize upd H8 l (.lst [.ref x1, .ref x2]) = H9 at e9 hl ⊢
    have hr1 := hr1.same e9
    have hr2 := hr2.same e9
    have e9 := e8.trans e9
    refine w_nil ?_
    refine rep_two R hl hr1 hr2 (b40 su1) (b40 sv1) (b40 su2) (b40 sv2) ?_
    refine w_gn ?_
    refine st_is [some (.ref a0), some (.int (i : Int)), some (.ref p), some (.int a), some (.int c), some (.int b), some (.int d), some (.ref x1), some (.ref x2), some (.str (listText [rtext u1 v1, rtext u2 v2])), o10] rfl ?_
    have one' : Sz 100 (1 : Int) := sz_one (by decide)
    refine w_seq ?_
    walk_at "rv go"
    refine ⟨.ref x1, .ref x2, a, b, c, d, u1, v1, u2, v2, rfl, R, X, .inr ⟨x1, rfl, hr1⟩, .inr ⟨x2, rfl, hr2⟩, .inl ⟨x1, rfl⟩, r1.eq, r2.eq, by omega, by omega, sa, sb, sc, sd, su1, sv1, su2, sv2, fun H10 e10 => ?_⟩
    walk_at "rv go"
    refine ⟨.ref x1, .int c, a, b, c, 1, u1, v1, c, 1, rfl, R, X, .inr ⟨x1, rfl, hr1.same e10⟩, .inl ⟨rfl, rfl⟩, .inl ⟨x1, rfl⟩, r1.eq, rfl, by omega, by omega, sa, sb, sc, one', su1, sv1, sc, one', fun H11 e11 => ?_⟩
    have e11 := e10.trans e11
    clear e10
    walk_at "rv go"
    refine w_seq ?_
    walk_at "rv go"
    refine ⟨.int a, .ref x2, a, 1, c, d, a, 1, u2, v2, rfl, R, X, .inl ⟨rfl, rfl⟩, .inr ⟨x2, rfl, hr2.same e11⟩, .inr ⟨x2, rfl⟩, rfl, r2.eq, by omega, by omega, sa, one', sc, sd, sa, one', su2, sv2, fun H12 e12 => ?_⟩
    have e12 := e11.trans e12
    clear e11
    walk_at "rv go"
    refine ⟨.ref x1, .ref x1, a, b, a, b, u1, v1, u1, v1, rfl, R, X, .inr ⟨x1, rfl, hr1.same e12⟩, .inr ⟨x1, rfl, hr1.same e12⟩, .inl ⟨x1, rfl⟩, r1.eq, r1.eq, by omega, by omega, sa, sb, sa, sb, su1, sv1, su1, sv1, fun H13 e13 => ?_⟩
    have e13 := e12.trans e13
    clear e12
    walk_at "rv go"
    refine w_seq ?_
    walk_at "rv go"
    refine ⟨szl (by show 2 ≤ 100000; decide), fun l2 nl2 => ?_⟩
    have e14 := same_new (o := .lst [.ref x1, .ref x2]) (Same.refl H13) nl2
    have hl2 : (upd H13 l2 (.lst [.ref x1, .ref x2])) l2 = some (.lst [.ref x1, .ref x2]) := upd_same
    generalize upd H13 l2 (.lst [.ref x1, .ref x2]) = H14 at e14 hl2 ⊢
    have e14 := e13.trans e14
    clear e13
    refine w_nil ?_
    refine rep_two R hl2 (hr1.same e14) (hr2.same e14) (b40 su1) (b40 sv1) (b40 su2) (b40 sv2) ?_
    walk_at "rv go"
    refine w_neR rfl rfl ?_
    walk_at "rv go"
    refine RvM.w_forLn ?_
    walk_at "rv go"
    refine w_make ?_
    walk_at "rv go"
    refine mk_rat (us := [.int 0]) (dvs := [.int 1]) rfl R (by decide) (sz_one (by decide)) fun x3 H15 u3 v3 e15 r3 hr3 => ?_
    have hu3 : u3 = 0 := by have := r3.eq; omega
    have hv3 : v3.natAbs < 10 ^ 40 := by
      have q1 := r3.le
      have q2 := r3.pos
      exact Nat.lt_of_le_of_lt (m := 1) (by omega) (by decide)
    subst hu3
    walk_at "rv go"
    refine ⟨szl (by show 1 ≤ 100000; decide), fun t1 nt1 => ?_⟩
    have g1 := same_new (o := .tup [.int 1]) (Same.refl H15) nt1
    have q1 : (upd H15 t1 (.tup [.int 1])) t1 = some (.tup [.int 1]) := upd_same
    generalize upd H15 t1 (.tup [.int 1]) = G1 at g1 q1 ⊢
    walk_at "rv go"
    refine ⟨szl (by show 1 ≤ 100000; decide), fun t2 nt2 => ?_⟩
    have g2 := same_new (o := .lst [.int 0]) (Same.refl G1) nt2
    have q2 : (upd G1 t2 (.lst [.int 0])) t2 = some (.lst [.int 0]) := upd_same
    generalize upd G1 t2 (.lst [.int 0]) = G2 at g2 q2 ⊢
    walk_at "rv go"
    refine ⟨szl (by show 8 ≤ 100000; decide), fun l3 nl3 => ⟨l3, rfl, ?_⟩⟩
    have g3 := same_new (o := .lst [.int 0, .ref x3, .non, .str "1", .bl true, .bl false, .ref t1, .ref t2]) (Same.refl G2) nl3
    have ql : (upd G2 l3 (.lst [.int 0, .ref x3, .non, .str "1", .bl true, .bl false, .ref t1, .ref t2])) l3 = some (.lst [.int 0, .ref x3, .non, .str "1", .bl true, .bl false, .ref t1, .ref t2]) := upd_same
    generalize upd G2 l3 (.lst [.int 0, .ref x3, .non, .str "1", .bl true, .bl false, .ref t1, .ref t2]) = G3 at g3 ql ⊢
    have PB := bd_all O (g3 _ _ (g2 _ _ q1)) (g3 _ _ q2) (((hr3.same g1).same g2).same g3) hv3
    have eG := (((e14.trans e15).trans g1).trans g2).trans g3
    refine RvM.w_forLa (sq_lst ql) (fun _ σ' H' => Same G3 H' ∧ ∃ o10, σ' = [some (.ref a0), some (.int (i : Int)), some (.ref p), some (.int a), some (.int c), some (.int b), some (.int d), some (.ref x1), some (.ref x2), some (.str (listText [rtext u1 v1, rtext u2 v2])), o10]) ⟨Same.refl G3, _, rfl⟩ (fun _ σ' H' _ ⟨e, _⟩ => sq_lst (e _ _ ql)) ?_ ?_
    · rintro m x σ' H16 hx ⟨e16, o10, rfl⟩
      obtain ⟨y, o, ov, hv, so, bad⟩ := (PB m x hx).same e16
      refine w_gn ?_
      refine st_is [some (.ref a0), some (.int (i : Int)), some (.ref p), some (.int a), some (.int c), some (.int b), some (.int d), some (.ref x1), some (.ref x2), some (.str (listText [rtext u1 v1, rtext u2 v2])), some x] rfl ?_
      walk_at "rv go"
      refine ⟨x1, x, y, u1, v1, o, rfl, R, rk, X, em, (hr1.same eG).same e16, su1.mono (by decide), sv1.mono (by decide), ov, hv, so, bad, fun H17 e17 => ?_⟩
      walk_at "rv go"
      refine (ov.same e17).rp R ?_
      refine w_neR rfl rfl ?_
      walk_at "rv go"
      exact ⟨e16.trans e17, _, rfl⟩
    rintro σ' H16 ⟨e16, o10, rfl⟩
    exact ⟨(e9.trans eG).trans e16, _, _, _, _, _, _, _, _, _, _, rfl⟩
  · rintro σ' H1 ⟨e1, o1, o2, o3, o4, o5, o6, o7, o8, o9, o10, rfl⟩
    have s9 : ∀ {z : Int}, z.natAbs ≤ 100 → Sz 900 z := fun h => Nat.lt_of_le_of_lt h (Nat.lt_of_lt_of_le (show 100 < 2 ^ 7 by decide) (Nat.pow_le_pow_right (by decide) (by decide)))
    have s30 : ∀ {z : Int}, z.natAbs ≤ 100 → Sz 3000 z := fun h => (s9 h).mono (by decide)
    walk_at "rv go"
    refine w_methN ?_
    refine w_make ?_
    walk_at "rv go"
    refine mk_rat rfl R (by decide) (sz8 (by decide)) fun x1 H2 u1 v1 e2 r1 hr1 => ?_
    obtain ⟨rfl, rfl⟩ : u1 = 1 ∧ v1 = 2 := by
      have q1 := r1.eq
      have q2 := r1.pos
      have q3 := r1.le
      omega
    obtain ⟨_, dx1, hx1⟩ := id hr1
    refine ⟨x1, dx1, _, rfl, hx1, rfl2_over _ _, ?_⟩
    walk_at "rv go"
    refine ⟨rfl, rfl, ?_⟩
    refine ⟨x1, .int 3, 1, 2, some (3, 1), rfl, R, X, hr1, .int 3, s30 (by decide), s30 (by decide), (fun n d e => by cases e; exact ⟨s30 (by decide), s30 (by decide)⟩), (fun w => by
      rcases w with w | ⟨_, w⟩ <;> cases w), fun n d e hn q H3 e3 hq => ?_⟩
    cases e
    rw [show zt (1 * 1) (2 * 3) = 1 by decide, show zb (1 * 1) (2 * 3) = 6 by decide] at hq
    walk_at "rv go"
    refine ⟨q, 1, 6, 1, 6, rfl, R, hq, s30 (by decide), s30 (by decide), s30 (by decide), s30 (by decide), rfl, ?_⟩
    walk_at "rv go"
    refine w_make ?_
    walk_at "rv go"
    refine mk_rat rfl R (by decide) (sz8 (by decide)) fun x2 H4 u2 v2 e4 r2 hr2 => ?_
    obtain ⟨rfl, rfl⟩ : u2 = 1 ∧ v2 = 2 := by
      have q1 := r2.eq
      have q2 := r2.pos
      have q3 := r2.le
      omega
    walk_at "rv go"
    refine w_make ?_
    walk_at "rv go"
    refine mk_rat rfl R (by decide) (sz8 (by decide)) fun x3 H5 u3 v3 e5 r3 hr3 => ?_
    obtain ⟨rfl, rfl⟩ : u3 = 1 ∧ v3 = 3 := by
      have q1 := r3.eq
      have q2 := r3.pos
      have q3 := r3.le
      omega
    walk_at "rv go"
    refine ⟨szl (by show 3 ≤ 100000; decide), fun l nl => ?_⟩
    have e6 := same_new (o := .lst [.ref x2, .ref x3, .int 1]) (Same.refl H5) nl
    have hl : (upd H5 l (.lst [.ref x2, .ref x3, .int 1])) l = some (.lst [.ref x2, .ref x3, .int 1]) := upd_same
    generalize upd H5 l (.lst [.ref x2, .ref x3, .int 1]) = H6 at e6 hl ⊢
    have hr2 := (hr2.same e5).same e6
    have hr3 := hr3.same e6
    refine ⟨l, x2, [.ref x3, .int 1], rfl, sq_lst hl, ?_⟩
    refine w_add3 (n1 := 0) (d1 := 1) R (.inl ⟨rfl, rfl⟩) (.inr ⟨x2, rfl, hr2⟩) (.inr ⟨x2, rfl⟩) (s9 (by decide)) (s9 (by decide)) (s9 (by decide)) (s9 (by decide)) fun y1 H7 a1 b1 e7 hy1 q1 p1 _ _ => ?_
    have pb1 := hy1.1.1
    obtain ⟨rfl, rfl⟩ : a1 = 1 ∧ b1 = 2 := by omega
    refine ⟨⟨y1, rfl⟩, sq_lst (e7 _ _ hl), ?_⟩
    refine w_add3 R (.inr ⟨y1, rfl, hy1⟩) (.inr ⟨x3, rfl, hr3.same e7⟩) (.inl ⟨y1, rfl⟩) (s9 (by decide)) (s9 (by decide)) (s9 (by decide)) (s9 (by decide)) fun y2 H8 a2 b2 e8 hy2 q2 p2 _ _ => ?_
    have pb2 := hy2.1.1
    obtain ⟨rfl, rfl⟩ : a2 = 5 ∧ b2 = 6 := by omega
    refine ⟨⟨y2, rfl⟩, sq_lst (e8 _ _ (e7 _ _ hl)), ?_⟩
    refine w_add3 (n2 := 1) (d2 := 1) R (.inr ⟨y2, rfl, hy2⟩) (.inl ⟨rfl, rfl⟩) (.inl ⟨y2, rfl⟩) (s9 (by decide)) (s9 (by decide)) (s9 (by decide)) (s9 (by decide)) fun y3 H9 a3 b3 e9 hy3 q3 p3 _ _ => ?_
    have pb3 := hy3.1.1
    refine ⟨⟨y3, rfl⟩, sq_lst (e9 _ _ (e8 _ _ (e7 _ _ hl))), ?_⟩
    unfold sumP
    show tCons (tC (.int 11)) _ _ _ _
    walk_at "rv go"
    exact ⟨y3, 11, 6, a3, b3, rfl, R, hy3, s30 (by decide), s30 (by decide), s30 (by omega), s30 (by omega), by omega, k _⟩
end Rv
namespace Rv
open PySem PySem.Spec PyProof.Rows L2
theorem sc_InvalidNumber___init__ : FnScope ["self", "value"] ["self", "value"] (defScope s_InvalidNumber___init__) := ⟨rfl, rfl, rfl, by decide +kernel, rfl, by decide +kernel, by decide +kernel⟩
theorem d_InvalidNumber___init__ {P : Program} {w : World} {K : PySem.W.Frag} {mg : Str → Option Value} {base : Heap} {C_InvalidNumber : Addr} {CX : CXT} {f : Addr} {cdv : Value} {A : Around} {outer : List Env} {s : Shared} {H : Hp} {E : XK} (bg_RainError : BaseG K C_RainError "ValueError.__init__") (g_RainError : mg "RainError" = some (.ref C_RainError))
    (hr : Room 0 (A.deeper (envOfC "InvalidNumber.__init__" (defScope s_InvalidNumber___init__) s.heap.objs.size f cdv))) :
    PSs (cxOf CX P w K mg base ["self", "value"] "InvalidNumber.__init__" (defScope s_InvalidNumber___init__) f cdv A outer s H E) (defBody s_InvalidNumber___init__) (t_InvalidNumber___init__ K C_InvalidNumber) :=
  (pss_cons (ps_expr (pe_ownbaseG bg_RainError (by rfl) g_RainError (pa_cons (pv 0) (pa_cons pe_str pa_nil))))
    (pss_one (ps_fst (pv 0) (pv 1))))
theorem ok_InvalidNumber___init__ {P : Program} {w : World} {K : PySem.W.Frag} {mg : Str → Option Value} {base : Heap} {C_InvalidNumber : Addr} {f : Addr} {fd : FuncData} (F : FunD K "__init__" "InvalidNumber.__init__" (defArgs s_InvalidNumber___init__) (defBody s_InvalidNumber___init__) (defScope s_InvalidNumber___init__) [] [] f fd) (bg_RainError : BaseG K C_RainError "ValueError.__init__") (g_RainError : mg "RainError" = some (.ref C_RainError)) : FnOk P w K mg base CX0 1 f fd ["self", "value"] (spExc K C_InvalidNumber "ValueError" "ValueError.__new__" "ValueError.__init__" bm_ValueError "value") :=
  F.ok sc_InvalidNumber___init__ (fun vs H Q E h => by first | (obtain ⟨_, rfl, _⟩ := h; rfl) | (obtain ⟨_, _, rfl, _⟩ := h; rfl) | (obtain ⟨_, _, _, rfl, _⟩ := h; rfl) | (obtain ⟨_, _, _, _, rfl, _⟩ := h; rfl) | (obtain ⟨_, _, _, _, _, rfl, _⟩ := h; rfl) | (obtain ⟨_, _, _, _, _, _, rfl, _⟩ := h; rfl) | (obtain ⟨_, _, _, _, _, _, _, rfl, _⟩ := h; rfl) | (obtain ⟨_, _, _, _, _, _, _, _, rfl, _⟩ := h; rfl) | (obtain ⟨_, _, _, _, _, _, _, _, _, rfl, _⟩ := h; rfl) | (obtain ⟨_, _, _, _, _, _, _, _, _, _, rfl, _⟩ := h; rfl) | (obtain ⟨_, _, _, _, _, _, _, _, _, _, _, rfl, _⟩ := h; rfl) | (obtain ⟨_, _, _, _, _, _, _, _, _, _, _, _, rfl, _⟩ := h; rfl) | (obtain ⟨_, _, _, _, _, _, _, _, _, _, _, _, _, rfl, _⟩ := h; rfl) | (obtain ⟨_, _, _, _, _, _, _, _, _, _, _, _, _, _, rfl, _⟩ := h; rfl) | (obtain ⟨_, _, _, _, _, _, _, _, _, _, _, _, _, _, _, rfl, _⟩ := h; rfl) | (obtain ⟨_, _, _, _, _, _, _, _, _, _, _, _, _, _, _, _, rfl, _⟩ := h; rfl) | (obtain ⟨_, _, _, _, _, _, _, _, _, _, _, _, _, _, _, _, _, rfl, _⟩ := h; rfl) | (obtain ⟨_, _, _, _, _, _, _, _, _, _, _, _, _, _, _, _, _, _, rfl, _⟩ := h; rfl) | (obtain ⟨_, _, _, _, _, _, _, _, _, _, _, _, _, _, _, _, _, _, _, rfl, _⟩ := h; rfl) | (obtain ⟨_, _, _, _, _, _, _, _, _, _, _, _, _, _, _, _, _, _, _, _, rfl, _⟩ := h; rfl) | (obtain ⟨_, _, _, _, _, _, _, _, _, _, _, _, _, _, _, _, _, _, _, _, _, rfl, _⟩ := h; rfl) | (obtain ⟨_, _, _, _, _, _, _, _, _, _, _, _, _, _, _, _, _, _, _, _, _, _, rfl, _⟩ := h; rfl) | (obtain ⟨_, _, _, _, _, _, _, _, _, _, _, _, _, _, _, _, _, _, _, _, _, _, _, rfl, _⟩ := h; rfl) | (obtain ⟨_, _, _, _, _, _, _, _, _, _, _, _, _, _, _, _, _, _, _, _, _, _, _, _, rfl, _⟩ := h; rfl) | (obtain ⟨_, _, _, _, _, _, _, _, _, _, _, _, _, _, _, _, _, _, _, _, _, _, _, _, _, rfl, _⟩ := h; rfl)) (fun cdv A outer s H vs Q E hr h => ⟨_, d_InvalidNumber___init__ bg_RainError g_RainError hr, p_numI h⟩)
theorem sc_is_whole : FnScope ["value"] ["value"] (defScope s_is_whole) := ⟨rfl, rfl, rfl, by decide +kernel, rfl, by decide +kernel, by decide +kernel⟩
theorem d_is_whole {P : Program} {w : World} {K : PySem.W.Frag} {mg : Str → Option Value} {base : Heap} {CX : CXT} {f : Addr} {cdv : Value} {A : Around} {outer : List Env} {s : Shared} {H : Hp} {E : XK} (m_int : mg "int" = none) (m_isinstance : mg "isinstance" = none) (m_bool : mg "bool" = none)
    (hr : Room 0 (A.deeper (envOfC "is_whole" (defScope s_is_whole) s.heap.objs.size f cdv))) :
    PSs (cxOf CX P w K mg base ["value"] "is_whole" (defScope s_is_whole) f cdv A outer s H E) (defBody s_is_whole) (t_is_whole K) :=
  (pss_one (ps_ret (pe_and (pe_callB call_isi (by rfl) m_isinstance (by decide +kernel) (pa_cons (pv 0) (pa_cons (pe_bltn (by rfl) m_int (by decide +kernel) rfl) pa_nil))) (pe_one (pe_not (pe_callB call_isi (by rfl) m_isinstance (by decide +kernel) (pa_cons (pv 0) (pa_cons (pe_bltn (by rfl) m_bool (by decide +kernel) rfl) pa_nil))))))))
theorem ok_is_whole {P : Program} {w : World} {K : PySem.W.Frag} {mg : Str → Option Value} {base : Heap} {f : Addr} {fd : FuncData} (F : FunD K "is_whole" "is_whole" (defArgs s_is_whole) (defBody s_is_whole) (defScope s_is_whole) [] [] f fd) (m_int : mg "int" = none) (m_isinstance : mg "isinstance" = none) (m_bool : mg "bool" = none) : FnOk P w K mg base CX0 1 f fd ["value"] (spWhole K) :=
  F.ok sc_is_whole (fun vs H Q E h => by first | (obtain ⟨_, rfl, _⟩ := h; rfl) | (obtain ⟨_, _, rfl, _⟩ := h; rfl) | (obtain ⟨_, _, _, rfl, _⟩ := h; rfl) | (obtain ⟨_, _, _, _, rfl, _⟩ := h; rfl) | (obtain ⟨_, _, _, _, _, rfl, _⟩ := h; rfl) | (obtain ⟨_, _, _, _, _, _, rfl, _⟩ := h; rfl) | (obtain ⟨_, _, _, _, _, _, _, rfl, _⟩ := h; rfl) | (obtain ⟨_, _, _, _, _, _, _, _, rfl, _⟩ := h; rfl) | (obtain ⟨_, _, _, _, _, _, _, _, _, rfl, _⟩ := h; rfl) | (obtain ⟨_, _, _, _, _, _, _, _, _, _, rfl, _⟩ := h; rfl) | (obtain ⟨_, _, _, _, _, _, _, _, _, _, _, rfl, _⟩ := h; rfl) | (obtain ⟨_, _, _, _, _, _, _, _, _, _, _, _, rfl, _⟩ := h; rfl) | (obtain ⟨_, _, _, _, _, _, _, _, _, _, _, _, _, rfl, _⟩ := h; rfl) | (obtain ⟨_, _, _, _, _, _, _, _, _, _, _, _, _, _, rfl, _⟩ := h; rfl) | (obtain ⟨_, _, _, _, _, _, _, _, _, _, _, _, _, _, _, rfl, _⟩ := h; rfl) | (obtain ⟨_, _, _, _, _, _, _, _, _, _, _, _, _, _, _, _, rfl, _⟩ := h; rfl) | (obtain ⟨_, _, _, _, _, _, _, _, _, _, _, _, _, _, _, _, _, rfl, _⟩ := h; rfl) | (obtain ⟨_, _, _, _, _, _, _, _, _, _, _, _, _, _, _, _, _, _, rfl, _⟩ := h; rfl) | (obtain ⟨_, _, _, _, _, _, _, _, _, _, _, _, _, _, _, _, _, _, _, rfl, _⟩ := h; rfl) | (obtain ⟨_, _, _, _, _, _, _, _, _, _, _, _, _, _, _, _, _, _, _, _, rfl, _⟩ := h; rfl) | (obtain ⟨_, _, _, _, _, _, _, _, _, _, _, _, _, _, _, _, _, _, _, _, _, rfl, _⟩ := h; rfl) | (obtain ⟨_, _, _, _, _, _, _, _, _, _, _, _, _, _, _, _, _, _, _, _, _, _, rfl, _⟩ := h; rfl) | (obtain ⟨_, _, _, _, _, _, _, _, _, _, _, _, _, _, _, _, _, _, _, _, _, _, _, rfl, _⟩ := h; rfl) | (obtain ⟨_, _, _, _, _, _, _, _, _, _, _, _, _, _, _, _, _, _, _, _, _, _, _, _, rfl, _⟩ := h; rfl) | (obtain ⟨_, _, _, _, _, _, _, _, _, _, _, _, _, _, _, _, _, _, _, _, _, _, _, _, _, rfl, _⟩ := h; rfl)) (fun cdv A outer s H vs Q E hr h => ⟨_, d_is_whole m_int m_isinstance m_bool hr, p_whole h⟩)
theorem sc_common_divisor : FnScope ["first", "second"] ["first", "second"] (defScope s_common_divisor) := ⟨rfl, rfl, rfl, by decide +kernel, rfl, by decide +kernel, by decide +kernel⟩
theorem d_common_divisor {P : Program} {w : World} {K : PySem.W.Frag} {mg : Str → Option Value} {base : Heap} {CX : CXT} {f : Addr} {cdv : Value} {A : Around} {outer : List Env} {s : Shared} {H : Hp} {E : XK} 
    (hr : Room 0 (A.deeper (envOfC "common_divisor" (defScope s_common_divisor) s.heap.objs.size f cdv))) :
    PSs (cxOf CX P w K mg base ["first", "second"] "common_divisor" (defScope s_common_divisor) f cdv A outer s H E) (defBody s_common_divisor) (t_common_divisor K) :=
  (pss_cons (ps_while (passes_of rfl) (pt_cmpR op_ne (pv 1) pe_int (nomark _)) (pss_one (ps_par (by rfl) sc_common_divisor.nd rfl rfl (by decide) rfl rfl (pa_cons (pv 1) (pa_cons (pe_op op_mod (pv 0) (pv 1)) pa_nil)) (by rfl))))
    (pss_one (ps_ret (pv 0))))
theorem ok_common_divisor {P : Program} {w : World} {K : PySem.W.Frag} {mg : Str → Option Value} {base : Heap} {f : Addr} {fd : FuncData} (F : FunD K "common_divisor" "common_divisor" (defArgs s_common_divisor) (defBody s_common_divisor) (defScope s_common_divisor) [] [] f fd)  : FnOk P w K mg base CX0 1 f fd ["first", "second"] (spGcd K) :=
  F.ok sc_common_divisor (fun vs H Q E h => by first | (obtain ⟨_, rfl, _⟩ := h; rfl) | (obtain ⟨_, _, rfl, _⟩ := h; rfl) | (obtain ⟨_, _, _, rfl, _⟩ := h; rfl) | (obtain ⟨_, _, _, _, rfl, _⟩ := h; rfl) | (obtain ⟨_, _, _, _, _, rfl, _⟩ := h; rfl) | (obtain ⟨_, _, _, _, _, _, rfl, _⟩ := h; rfl) | (obtain ⟨_, _, _, _, _, _, _, rfl, _⟩ := h; rfl) | (obtain ⟨_, _, _, _, _, _, _, _, rfl, _⟩ := h; rfl) | (obtain ⟨_, _, _, _, _, _, _, _, _, rfl, _⟩ := h; rfl) | (obtain ⟨_, _, _, _, _, _, _, _, _, _, rfl, _⟩ := h; rfl) | (obtain ⟨_, _, _, _, _, _, _, _, _, _, _, rfl, _⟩ := h; rfl) | (obtain ⟨_, _, _, _, _, _, _, _, _, _, _, _, rfl, _⟩ := h; rfl) | (obtain ⟨_, _, _, _, _, _, _, _, _, _, _, _, _, rfl, _⟩ := h; rfl) | (obtain ⟨_, _, _, _, _, _, _, _, _, _, _, _, _, _, rfl, _⟩ := h; rfl) | (obtain ⟨_, _, _, _, _, _, _, _, _, _, _, _, _, _, _, rfl, _⟩ := h; rfl) | (obtain ⟨_, _, _, _, _, _, _, _, _, _, _, _, _, _, _, _, rfl, _⟩ := h; rfl) | (obtain ⟨_, _, _, _, _, _, _, _, _, _, _, _, _, _, _, _, _, rfl, _⟩ := h; rfl) | (obtain ⟨_, _, _, _, _, _, _, _, _, _, _, _, _, _, _, _, _, _, rfl, _⟩ := h; rfl) | (obtain ⟨_, _, _, _, _, _, _, _, _, _, _, _, _, _, _, _, _, _, _, rfl, _⟩ := h; rfl) | (obtain ⟨_, _, _, _, _, _, _, _, _, _, _, _, _, _, _, _, _, _, _, _, rfl, _⟩ := h; rfl) | (obtain ⟨_, _, _, _, _, _, _, _, _, _, _, _, _, _, _, _, _, _, _, _, _, rfl, _⟩ := h; rfl) | (obtain ⟨_, _, _, _, _, _, _, _, _, _, _, _, _, _, _, _, _, _, _, _, _, _, rfl, _⟩ := h; rfl) | (obtain ⟨_, _, _, _, _, _, _, _, _, _, _, _, _, _, _, _, _, _, _, _, _, _, _, rfl, _⟩ := h; rfl) | (obtain ⟨_, _, _, _, _, _, _, _, _, _, _, _, _, _, _, _, _, _, _, _, _, _, _, _, rfl, _⟩ := h; rfl) | (obtain ⟨_, _, _, _, _, _, _, _, _, _, _, _, _, _, _, _, _, _, _, _, _, _, _, _, _, rfl, _⟩ := h; rfl)) (fun cdv A outer s H vs Q E hr h => ⟨_, d_common_divisor  hr, p_gcd h⟩)
theorem sc_gap : FnScope ["left", "right"] ["left", "right"] (defScope s_gap) := ⟨rfl, rfl, rfl, by decide +kernel, rfl, by decide +kernel, by decide +kernel⟩
theorem d_gap {P : Program} {w : World} {K : PySem.W.Frag} {mg : Str → Option Value} {base : Heap} {C_Ratio : Addr} {CX : CXT} {f : Addr} {cdv : Value} {A : Around} {outer : List Env} {s : Shared} {H : Hp} {E : XK} 
    (hr : Room 0 (A.deeper (envOfC "gap" (defScope s_gap) s.heap.objs.size f cdv))) :
    PSs (cxOf CX P w K mg base ["left", "right"] "gap" (defScope s_gap) f cdv A outer s H E) (defBody s_gap) (t_gap K C_Ratio) :=
  (pss_one (ps_ret (pe_op op_sub (pe_op op_mulW (pe_fld (pv 0) rfl) (pe_fld (pv 1) rfl)) (pe_op op_mulW (pe_fld (pv 1) rfl) (pe_fld (pv 0) rfl)))))
theorem ok_gap {P : Program} {w : World} {K : PySem.W.Frag} {mg : Str → Option Value} {base : Heap} {C_Ratio : Addr} {f : Addr} {fd : FuncData} (F : FunD K "gap" "gap" (defArgs s_gap) (defBody s_gap) (defScope s_gap) [] [] f fd)  : FnOk P w K mg base CX0 1 f fd ["left", "right"] (spGap K C_Ratio) :=
  F.ok sc_gap (fun vs H Q E h => by first | (obtain ⟨_, rfl, _⟩ := h; rfl) | (obtain ⟨_, _, rfl, _⟩ := h; rfl) | (obtain ⟨_, _, _, rfl, _⟩ := h; rfl) | (obtain ⟨_, _, _, _, rfl, _⟩ := h; rfl) | (obtain ⟨_, _, _, _, _, rfl, _⟩ := h; rfl) | (obtain ⟨_, _, _, _, _, _, rfl, _⟩ := h; rfl) | (obtain ⟨_, _, _, _, _, _, _, rfl, _⟩ := h; rfl) | (obtain ⟨_, _, _, _, _, _, _, _, rfl, _⟩ := h; rfl) | (obtain ⟨_, _, _, _, _, _, _, _, _, rfl, _⟩ := h; rfl) | (obtain ⟨_, _, _, _, _, _, _, _, _, _, rfl, _⟩ := h; rfl) | (obtain ⟨_, _, _, _, _, _, _, _, _, _, _, rfl, _⟩ := h; rfl) | (obtain ⟨_, _, _, _, _, _, _, _, _, _, _, _, rfl, _⟩ := h; rfl) | (obtain ⟨_, _, _, _, _, _, _, _, _, _, _, _, _, rfl, _⟩ := h; rfl) | (obtain ⟨_, _, _, _, _, _, _, _, _, _, _, _, _, _, rfl, _⟩ := h; rfl) | (obtain ⟨_, _, _, _, _, _, _, _, _, _, _, _, _, _, _, rfl, _⟩ := h; rfl) | (obtain ⟨_, _, _, _, _, _, _, _, _, _, _, _, _, _, _, _, rfl, _⟩ := h; rfl) | (obtain ⟨_, _, _, _, _, _, _, _, _, _, _, _, _, _, _, _, _, rfl, _⟩ := h; rfl) | (obtain ⟨_, _, _, _, _, _, _, _, _, _, _, _, _, _, _, _, _, _, rfl, _⟩ := h; rfl) | (obtain ⟨_, _, _, _, _, _, _, _, _, _, _, _, _, _, _, _, _, _, _, rfl, _⟩ := h; rfl) | (obtain ⟨_, _, _, _, _, _, _, _, _, _, _, _, _, _, _, _, _, _, _, _, rfl, _⟩ := h; rfl) | (obtain ⟨_, _, _, _, _, _, _, _, _, _, _, _, _, _, _, _, _, _, _, _, _, rfl, _⟩ := h; rfl) | (obtain ⟨_, _, _, _, _, _, _, _, _, _, _, _, _, _, _, _, _, _, _, _, _, _, rfl, _⟩ := h; rfl) | (obtain ⟨_, _, _, _, _, _, _, _, _, _, _, _, _, _, _, _, _, _, _, _, _, _, _, rfl, _⟩ := h; rfl) | (obtain ⟨_, _, _, _, _, _, _, _, _, _, _, _, _, _, _, _, _, _, _, _, _, _, _, _, rfl, _⟩ := h; rfl) | (obtain ⟨_, _, _, _, _, _, _, _, _, _, _, _, _, _, _, _, _, _, _, _, _, _, _, _, _, rfl, _⟩ := h; rfl)) (fun cdv A outer s H vs Q E hr h => ⟨_, d_gap  hr, p_gap h⟩)
theorem sc_Ratio___init__ : FnScope ["self", "numerator", "denominator", "divisor"] ["self", "numerator", "denominator"] (defScope s_Ratio___init__) := ⟨rfl, rfl, rfl, by decide +kernel, rfl, by decide +kernel, by decide +kernel⟩
theorem d_Ratio___init__ {P : Program} {w : World} {K : PySem.W.Frag} {mg : Str → Option Value} {base : Heap} {C_Ratio : Addr} {CX : CXT} {f : Addr} {cdv : Value} {A : Around} {outer : List Env} {s : Shared} {H : Hp} {E : XK} (c_is_whole : Cal P w K mg base CX0 1 "is_whole" ["value"] (spWhole K)) (m_abs : mg "abs" = none) (c_common_divisor : Cal P w K mg base CX0 1 "common_divisor" ["first", "second"] (spGcd K))
    (hr : Room 1 (A.deeper (envOfC "Ratio.__init__" (defScope s_Ratio___init__) s.heap.objs.size f cdv))) :
    PSs (cxOf CX P w K mg base ["self", "numerator", "denominator", "divisor"] "Ratio.__init__" (defScope s_Ratio___init__) f cdv A outer s H E) (defBody s_Ratio___init__) (t_Ratio___init__ K C_Ratio) :=
  (pss_cons (ps_if (pt_not (pt_val (pe_cal c_is_whole (hr.mono (by decide)) rfl pass0 (pa_cons (pv 1) pa_nil)))) (pss_one ps_never) pss_nil)
    (pss_cons (ps_if (PW.pt (pw_or (pt_not (pt_val (pe_cal c_is_whole (hr.mono (by decide)) rfl pass0 (pa_cons (pv 2) pa_nil)))) (pw_or1 (pt_cmpR op_eq (pv 2) pe_int (nomark _))))) (pss_one ps_never) pss_nil)
    (pss_cons (ps_set (i := 3) sc_Ratio___init__.nd rfl (by first | exact Or.inl rfl | exact Or.inr rfl) (pe_cal c_common_divisor (hr.mono (by decide)) rfl pass0 (pa_cons (pe_callB call_abs (by rfl) m_abs (by decide +kernel) (pa_cons (pv 1) pa_nil)) (pa_cons (pe_callB call_abs (by rfl) m_abs (by decide +kernel) (pa_cons (pv 2) pa_nil)) pa_nil))))
    (pss_cons (ps_if (pt_cmpR op_lt (pv 2) pe_int (nomark _)) (pss_one (ps_set (i := 3) sc_Ratio___init__.nd rfl (by first | exact Or.inl rfl | exact Or.inr rfl) (pe_un un_neg (pv 3)))) pss_nil)
    (pss_cons (ps_fld (pv 0) (pe_op op_fdivW (pv 1) (pv 3)) rfl)
    (pss_one (ps_fld (pv 0) (pe_op op_fdivW (pv 2) (pv 3)) rfl)))))))
theorem ok_Ratio___init__ {P : Program} {w : World} {K : PySem.W.Frag} {mg : Str → Option Value} {base : Heap} {C_Ratio : Addr} {f : Addr} {fd : FuncData} (F : FunD K "__init__" "Ratio.__init__" (defArgs s_Ratio___init__) (defBody s_Ratio___init__) (defScope s_Ratio___init__) [.int 1] [] f fd) (c_is_whole : Cal P w K mg base CX0 1 "is_whole" ["value"] (spWhole K)) (m_abs : mg "abs" = none) (c_common_divisor : Cal P w K mg base CX0 1 "common_divisor" ["first", "second"] (spGcd K)) : FnOk P w K mg base CX0 2 f fd ["self", "numerator", "denominator"] (spRInit K C_Ratio) :=
  F.ok sc_Ratio___init__ (fun vs H Q E h => by first | (obtain ⟨_, rfl, _⟩ := h; rfl) | (obtain ⟨_, _, rfl, _⟩ := h; rfl) | (obtain ⟨_, _, _, rfl, _⟩ := h; rfl) | (obtain ⟨_, _, _, _, rfl, _⟩ := h; rfl) | (obtain ⟨_, _, _, _, _, rfl, _⟩ := h; rfl) | (obtain ⟨_, _, _, _, _, _, rfl, _⟩ := h; rfl) | (obtain ⟨_, _, _, _, _, _, _, rfl, _⟩ := h; rfl) | (obtain ⟨_, _, _, _, _, _, _, _, rfl, _⟩ := h; rfl) | (obtain ⟨_, _, _, _, _, _, _, _, _, rfl, _⟩ := h; rfl) | (obtain ⟨_, _, _, _, _, _, _, _, _, _, rfl, _⟩ := h; rfl) | (obtain ⟨_, _, _, _, _, _, _, _, _, _, _, rfl, _⟩ := h; rfl) | (obtain ⟨_, _, _, _, _, _, _, _, _, _, _, _, rfl, _⟩ := h; rfl) | (obtain ⟨_, _, _, _, _, _, _, _, _, _, _, _, _, rfl, _⟩ := h; rfl) | (obtain ⟨_, _, _, _, _, _, _, _, _, _, _, _, _, _, rfl, _⟩ := h; rfl) | (obtain ⟨_, _, _, _, _, _, _, _, _, _, _, _, _, _, _, rfl, _⟩ := h; rfl) | (obtain ⟨_, _, _, _, _, _, _, _, _, _, _, _, _, _, _, _, rfl, _⟩ := h; rfl) | (obtain ⟨_, _, _, _, _, _, _, _, _, _, _, _, _, _, _, _, _, rfl, _⟩ := h; rfl) | (obtain ⟨_, _, _, _, _, _, _, _, _, _, _, _, _, _, _, _, _, _, rfl, _⟩ := h; rfl) | (obtain ⟨_, _, _, _, _, _, _, _, _, _, _, _, _, _, _, _, _, _, _, rfl, _⟩ := h; rfl) | (obtain ⟨_, _, _, _, _, _, _, _, _, _, _, _, _, _, _, _, _, _, _, _, rfl, _⟩ := h; rfl) | (obtain ⟨_, _, _, _, _, _, _, _, _, _, _, _, _, _, _, _, _, _, _, _, _, rfl, _⟩ := h; rfl) | (obtain ⟨_, _, _, _, _, _, _, _, _, _, _, _, _, _, _, _, _, _, _, _, _, _, rfl, _⟩ := h; rfl) | (obtain ⟨_, _, _, _, _, _, _, _, _, _, _, _, _, _, _, _, _, _, _, _, _, _, _, rfl, _⟩ := h; rfl) | (obtain ⟨_, _, _, _, _, _, _, _, _, _, _, _, _, _, _, _, _, _, _, _, _, _, _, _, rfl, _⟩ := h; rfl) | (obtain ⟨_, _, _, _, _, _, _, _, _, _, _, _, _, _, _, _, _, _, _, _, _, _, _, _, _, rfl, _⟩ := h; rfl)) (fun cdv A outer s H vs Q E hr h => ⟨_, d_Ratio___init__ c_is_whole m_abs c_common_divisor hr, p_rinit h⟩)
theorem sc_Ratio___init__X : FnScope ["self", "numerator", "denominator", "divisor"] ["self", "numerator", "denominator"] (defScope s_Ratio___init__X) := ⟨rfl, rfl, rfl, by decide +kernel, rfl, by decide +kernel, by decide +kernel⟩
theorem d_Ratio___init__X {P : Program} {w : World} {K : PySem.W.Frag} {mg : Str → Option Value} {base : Heap} {C_Ratio : Addr} {C_InvalidNumber : Addr} {f : Addr} {cdv : Value} {A : Around} {outer : List Env} {s : Shared} {H : Hp} {E : XK} (c_is_whole : Cal P w K mg base CX0 1 "is_whole" ["value"] (spWhole K)) (cx_InvalidNumber : CalX P w K mg base CX0 1 "InvalidNumber" C_InvalidNumber ["self", "value"] (spExc K C_InvalidNumber "ValueError" "ValueError.__new__" "ValueError.__init__" bm_ValueError "value") [] "ValueError" "ValueError.__new__" "ValueError.__init__" bm_ValueError) (m_abs : mg "abs" = none) (c_common_divisor : Cal P w K mg base CX0 1 "common_divisor" ["first", "second"] (spGcd K))
    (hr : Room 2 (A.deeper (envOfC "Ratio.__init__" (defScope s_Ratio___init__X) s.heap.objs.size f cdv))) :
    PSs (cxOf (L2.CX P w) P w K mg base ["self", "numerator", "denominator", "divisor"] "Ratio.__init__" (defScope s_Ratio___init__X) f cdv A outer s H E) (defBody s_Ratio___init__X) (t_Ratio___init__X K C_Ratio C_InvalidNumber E) :=
  (pss_cons (ps_if (pt_not (pt_val (pe_cal c_is_whole (hr.mono (by decide)) rfl pass0 (pa_cons (pv 1) pa_nil)))) (pss_one (ps_raiseE (pmk_cal cx_InvalidNumber (hr.mono (by decide)) pass0 (by rfl) (pa_cons (pv 1) pa_nil)) (takes_of rfl rfl rfl rfl))) pss_nil)
    (pss_cons (ps_if (PW.pt (pw_or (pt_not (pt_val (pe_cal c_is_whole (hr.mono (by decide)) rfl pass0 (pa_cons (pv 2) pa_nil)))) (pw_or1 (pt_cmpR op_eq (pv 2) pe_int (nomark _))))) (pss_one (ps_raiseE (pmk_cal cx_InvalidNumber (hr.mono (by decide)) pass0 (by rfl) (pa_cons (pv 2) pa_nil)) (takes_of rfl rfl rfl rfl))) pss_nil)
    (pss_cons (ps_set (i := 3) sc_Ratio___init__X.nd rfl (by first | exact Or.inl rfl | exact Or.inr rfl) (pe_cal c_common_divisor (hr.mono (by decide)) rfl pass0 (pa_cons (pe_callB call_abs (by rfl) m_abs (by decide +kernel) (pa_cons (pv 1) pa_nil)) (pa_cons (pe_callB call_abs (by rfl) m_abs (by decide +kernel) (pa_cons (pv 2) pa_nil)) pa_nil))))
    (pss_cons (ps_if (pt_cmpR op_lt (pv 2) pe_int (nomark _)) (pss_one (ps_set (i := 3) sc_Ratio___init__X.nd rfl (by first | exact Or.inl rfl | exact Or.inr rfl) (pe_un un_neg (pv 3)))) pss_nil)
    (pss_cons (ps_fld (pv 0) (pe_op op_fdivZ (pv 1) (pv 3)) rfl)
    (pss_one (ps_fld (pv 0) (pe_op op_fdivZ (pv 2) (pv 3)) rfl)))))))
theorem ok_Ratio___init__X {P : Program} {w : World} {K : PySem.W.Frag} {mg : Str → Option Value} {base : Heap} {C_Ratio : Addr} {C_InvalidNumber : Addr} {f : Addr} {fd : FuncData} (F : FunD K "__init__" "Ratio.__init__" (defArgs s_Ratio___init__X) (defBody s_Ratio___init__X) (defScope s_Ratio___init__X) [.int 1] [] f fd) (c_is_whole : Cal P w K mg base CX0 1 "is_whole" ["value"] (spWhole K)) (cx_InvalidNumber : CalX P w K mg base CX0 1 "InvalidNumber" C_InvalidNumber ["self", "value"] (spExc K C_InvalidNumber "ValueError" "ValueError.__new__" "ValueError.__init__" bm_ValueError "value") [] "ValueError" "ValueError.__new__" "ValueError.__init__" bm_ValueError) (m_abs : mg "abs" = none) (c_common_divisor : Cal P w K mg base CX0 1 "common_divisor" ["first", "second"] (spGcd K)) : FnOk P w K mg base (L2.CX P w) 3 f fd ["self", "numerator", "denominator"] (spRInitX K C_Ratio C_InvalidNumber) :=
  F.ok sc_Ratio___init__X (fun vs H Q E h => by first | (obtain ⟨_, rfl, _⟩ := h; rfl) | (obtain ⟨_, _, rfl, _⟩ := h; rfl) | (obtain ⟨_, _, _, rfl, _⟩ := h; rfl) | (obtain ⟨_, _, _, _, rfl, _⟩ := h; rfl) | (obtain ⟨_, _, _, _, _, rfl, _⟩ := h; rfl) | (obtain ⟨_, _, _, _, _, _, rfl, _⟩ := h; rfl) | (obtain ⟨_, _, _, _, _, _, _, rfl, _⟩ := h; rfl) | (obtain ⟨_, _, _, _, _, _, _, _, rfl, _⟩ := h; rfl) | (obtain ⟨_, _, _, _, _, _, _, _, _, rfl, _⟩ := h; rfl) | (obtain ⟨_, _, _, _, _, _, _, _, _, _, rfl, _⟩ := h; rfl) | (obtain ⟨_, _, _, _, _, _, _, _, _, _, _, rfl, _⟩ := h; rfl) | (obtain ⟨_, _, _, _, _, _, _, _, _, _, _, _, rfl, _⟩ := h; rfl) | (obtain ⟨_, _, _, _, _, _, _, _, _, _, _, _, _, rfl, _⟩ := h; rfl) | (obtain ⟨_, _, _, _, _, _, _, _, _, _, _, _, _, _, rfl, _⟩ := h; rfl) | (obtain ⟨_, _, _, _, _, _, _, _, _, _, _, _, _, _, _, rfl, _⟩ := h; rfl) | (obtain ⟨_, _, _, _, _, _, _, _, _, _, _, _, _, _, _, _, rfl, _⟩ := h; rfl) | (obtain ⟨_, _, _, _, _, _, _, _, _, _, _, _, _, _, _, _, _, rfl, _⟩ := h; rfl) | (obtain ⟨_, _, _, _, _, _, _, _, _, _, _, _, _, _, _, _, _, _, rfl, _⟩ := h; rfl) | (obtain ⟨_, _, _, _, _, _, _, _, _, _, _, _, _, _, _, _, _, _, _, rfl, _⟩ := h; rfl) | (obtain ⟨_, _, _, _, _, _, _, _, _, _, _, _, _, _, _, _, _, _, _, _, rfl, _⟩ := h; rfl) | (obtain ⟨_, _, _, _, _, _, _, _, _, _, _, _, _, _, _, _, _, _, _, _, _, rfl, _⟩ := h; rfl) | (obtain ⟨_, _, _, _, _, _, _, _, _, _, _, _, _, _, _, _, _, _, _, _, _, _, rfl, _⟩ := h; rfl) | (obtain ⟨_, _, _, _, _, _, _, _, _, _, _, _, _, _, _, _, _, _, _, _, _, _, _, rfl, _⟩ := h; rfl) | (obtain ⟨_, _, _, _, _, _, _, _, _, _, _, _, _, _, _, _, _, _, _, _, _, _, _, _, rfl, _⟩ := h; rfl) | (obtain ⟨_, _, _, _, _, _, _, _, _, _, _, _, _, _, _, _, _, _, _, _, _, _, _, _, _, rfl, _⟩ := h; rfl)) (fun cdv A outer s H vs Q E hr h => ⟨_, d_Ratio___init__X c_is_whole cx_InvalidNumber m_abs c_common_divisor hr, p_rinitX h⟩)
theorem sc_as_ratio : FnScope ["value"] ["value"] (defScope s_as_ratio) := ⟨rfl, rfl, rfl, by decide +kernel, rfl, by decide +kernel, by decide +kernel⟩
theorem d_as_ratio {P : Program} {w : World} {K : PySem.W.Frag} {mg : Str → Option Value} {base : Heap} {C_Ratio : Addr} {CX : CXT} {f : Addr} {cdv : Value} {A : Around} {outer : List Env} {s : Shared} {H : Hp} {E : XK} (g_Ratio : mg "Ratio" = some (.ref C_Ratio)) (m_isinstance : mg "isinstance" = none) (c_is_whole : Cal P w K mg base CX0 1 "is_whole" ["value"] (spWhole K)) (cm1_Ratio : CalM P w K mg base CX0 2 "Ratio" C_Ratio ["self", "numerator", "denominator"] (spRInit K C_Ratio) [.int 1])
    (hr : Room 3 (A.deeper (envOfC "as_ratio" (defScope s_as_ratio) s.heap.objs.size f cdv))) :
    PSs (cxOf CX P w K mg base ["value"] "as_ratio" (defScope s_as_ratio) f cdv A outer s H E) (defBody s_as_ratio) (t_as_ratio K C_Ratio) :=
  (pss_cons (ps_if (pt_val (pe_callB call_isi (by rfl) m_isinstance (by decide +kernel) (pa_cons (pv 0) (pa_cons (pe_glob rfl g_Ratio rfl) pa_nil)))) (pss_one (ps_ret (pv 0))) pss_nil)
    (pss_cons (ps_if (pt_val (pe_cal c_is_whole (hr.mono (by decide)) rfl pass0 (pa_cons (pv 0) pa_nil))) (pss_one (ps_ret (pe_calm cm1_Ratio (hr.mono (by decide)) (by rfl) pass0 (pa_cons (pv 0) pa_nil)))) pss_nil)
    (pss_one (ps_ret pe_non))))
theorem ok_as_ratio {P : Program} {w : World} {K : PySem.W.Frag} {mg : Str → Option Value} {base : Heap} {C_Ratio : Addr} {f : Addr} {fd : FuncData} (F : FunD K "as_ratio" "as_ratio" (defArgs s_as_ratio) (defBody s_as_ratio) (defScope s_as_ratio) [] [] f fd) (g_Ratio : mg "Ratio" = some (.ref C_Ratio)) (m_isinstance : mg "isinstance" = none) (c_is_whole : Cal P w K mg base CX0 1 "is_whole" ["value"] (spWhole K)) (cm1_Ratio : CalM P w K mg base CX0 2 "Ratio" C_Ratio ["self", "numerator", "denominator"] (spRInit K C_Ratio) [.int 1]) : FnOk P w K mg base CX0 4 f fd ["value"] (spAsR K C_Ratio) :=
  F.ok sc_as_ratio (fun vs H Q E h => by first | (obtain ⟨_, rfl, _⟩ := h; rfl) | (obtain ⟨_, _, rfl, _⟩ := h; rfl) | (obtain ⟨_, _, _, rfl, _⟩ := h; rfl) | (obtain ⟨_, _, _, _, rfl, _⟩ := h; rfl) | (obtain ⟨_, _, _, _, _, rfl, _⟩ := h; rfl) | (obtain ⟨_, _, _, _, _, _, rfl, _⟩ := h; rfl) | (obtain ⟨_, _, _, _, _, _, _, rfl, _⟩ := h; rfl) | (obtain ⟨_, _, _, _, _, _, _, _, rfl, _⟩ := h; rfl) | (obtain ⟨_, _, _, _, _, _, _, _, _, rfl, _⟩ := h; rfl) | (obtain ⟨_, _, _, _, _, _, _, _, _, _, rfl, _⟩ := h; rfl) | (obtain ⟨_, _, _, _, _, _, _, _, _, _, _, rfl, _⟩ := h; rfl) | (obtain ⟨_, _, _, _, _, _, _, _, _, _, _, _, rfl, _⟩ := h; rfl) | (obtain ⟨_, _, _, _, _, _, _, _, _, _, _, _, _, rfl, _⟩ := h; rfl) | (obtain ⟨_, _, _, _, _, _, _, _, _, _, _, _, _, _, rfl, _⟩ := h; rfl) | (obtain ⟨_, _, _, _, _, _, _, _, _, _, _, _, _, _, _, rfl, _⟩ := h; rfl) | (obtain ⟨_, _, _, _, _, _, _, _, _, _, _, _, _, _, _, _, rfl, _⟩ := h; rfl) | (obtain ⟨_, _, _, _, _, _, _, _, _, _, _, _, _, _, _, _, _, rfl, _⟩ := h; rfl) | (obtain ⟨_, _, _, _, _, _, _, _, _, _, _, _, _, _, _, _, _, _, rfl, _⟩ := h; rfl) | (obtain ⟨_, _, _, _, _, _, _, _, _, _, _, _, _, _, _, _, _, _, _, rfl, _⟩ := h; rfl) | (obtain ⟨_, _, _, _, _, _, _, _, _, _, _, _, _, _, _, _, _, _, _, _, rfl, _⟩ := h; rfl) | (obtain ⟨_, _, _, _, _, _, _, _, _, _, _, _, _, _, _, _, _, _, _, _, _, rfl, _⟩ := h; rfl) | (obtain ⟨_, _, _, _, _, _, _, _, _, _, _, _, _, _, _, _, _, _, _, _, _, _, rfl, _⟩ := h; rfl) | (obtain ⟨_, _, _, _, _, _, _, _, _, _, _, _, _, _, _, _, _, _, _, _, _, _, _, rfl, _⟩ := h; rfl) | (obtain ⟨_, _, _, _, _, _, _, _, _, _, _, _, _, _, _, _, _, _, _, _, _, _, _, _, rfl, _⟩ := h; rfl) | (obtain ⟨_, _, _, _, _, _, _, _, _, _, _, _, _, _, _, _, _, _, _, _, _, _, _, _, _, rfl, _⟩ := h; rfl)) (fun cdv A outer s H vs Q E hr h => ⟨_, d_as_ratio g_Ratio m_isinstance c_is_whole cm1_Ratio hr, p_asR h⟩)
theorem sc_as_ratioX : FnScope ["value"] ["value"] (defScope s_as_ratioX) := ⟨rfl, rfl, rfl, by decide +kernel, rfl, by decide +kernel, by decide +kernel⟩
theorem d_as_ratioX {P : Program} {w : World} {K : PySem.W.Frag} {mg : Str → Option Value} {base : Heap} {C_Ratio : Addr} {CX : CXT} {f : Addr} {cdv : Value} {A : Around} {outer : List Env} {s : Shared} {H : Hp} {E : XK} (g_Ratio : mg "Ratio" = some (.ref C_Ratio)) (m_isinstance : mg "isinstance" = none) (c_is_whole : Cal P w K mg base CX0 1 "is_whole" ["value"] (spWhole K)) (cm1_Ratio : CalM P w K mg base CX0 2 "Ratio" C_Ratio ["self", "numerator", "denominator"] (spRInit K C_Ratio) [.int 1])
    (hr : Room 3 (A.deeper (envOfC "as_ratio" (defScope s_as_ratioX) s.heap.objs.size f cdv))) :
    PSs (cxOf CX P w K mg base ["value"] "as_ratio" (defScope s_as_ratioX) f cdv A outer s H E) (defBody s_as_ratioX) (t_as_ratioX K C_Ratio) :=
  (pss_cons (ps_if (pt_val (pe_callB call_isi (by rfl) m_isinstance (by decide +kernel) (pa_cons (pv 0) (pa_cons (pe_glob rfl g_Ratio rfl) pa_nil)))) (pss_one (ps_ret (pv 0))) pss_nil)
    (pss_cons (ps_if (pt_val (pe_cal c_is_whole (hr.mono (by decide)) rfl pass0 (pa_cons (pv 0) pa_nil))) (pss_one (ps_ret (pe_calm cm1_Ratio (hr.mono (by decide)) (by rfl) pass0 (pa_cons (pv 0) pa_nil)))) pss_nil)
    (pss_one (ps_ret pe_non))))
theorem ok_as_ratioX {P : Program} {w : World} {K : PySem.W.Frag} {mg : Str → Option Value} {base : Heap} {C_Ratio : Addr} {f : Addr} {fd : FuncData} (F : FunD K "as_ratio" "as_ratio" (defArgs s_as_ratioX) (defBody s_as_ratioX) (defScope s_as_ratioX) [] [] f fd) (g_Ratio : mg "Ratio" = some (.ref C_Ratio)) (m_isinstance : mg "isinstance" = none) (c_is_whole : Cal P w K mg base CX0 1 "is_whole" ["value"] (spWhole K)) (cm1_Ratio : CalM P w K mg base CX0 2 "Ratio" C_Ratio ["self", "numerator", "denominator"] (spRInit K C_Ratio) [.int 1]) : FnOk P w K mg base CX0 4 f fd ["value"] (spAsRX K C_Ratio) :=
  F.ok sc_as_ratioX (fun vs H Q E h => by first | (obtain ⟨_, rfl, _⟩ := h; rfl) | (obtain ⟨_, _, rfl, _⟩ := h; rfl) | (obtain ⟨_, _, _, rfl, _⟩ := h; rfl) | (obtain ⟨_, _, _, _, rfl, _⟩ := h; rfl) | (obtain ⟨_, _, _, _, _, rfl, _⟩ := h; rfl) | (obtain ⟨_, _, _, _, _, _, rfl, _⟩ := h; rfl) | (obtain ⟨_, _, _, _, _, _, _, rfl, _⟩ := h; rfl) | (obtain ⟨_, _, _, _, _, _, _, _, rfl, _⟩ := h; rfl) | (obtain ⟨_, _, _, _, _, _, _, _, _, rfl, _⟩ := h; rfl) | (obtain ⟨_, _, _, _, _, _, _, _, _, _, rfl, _⟩ := h; rfl) | (obtain ⟨_, _, _, _, _, _, _, _, _, _, _, rfl, _⟩ := h; rfl) | (obtain ⟨_, _, _, _, _, _, _, _, _, _, _, _, rfl, _⟩ := h; rfl) | (obtain ⟨_, _, _, _, _, _, _, _, _, _, _, _, _, rfl, _⟩ := h; rfl) | (obtain ⟨_, _, _, _, _, _, _, _, _, _, _, _, _, _, rfl, _⟩ := h; rfl) | (obtain ⟨_, _, _, _, _, _, _, _, _, _, _, _, _, _, _, rfl, _⟩ := h; rfl) | (obtain ⟨_, _, _, _, _, _, _, _, _, _, _, _, _, _, _, _, rfl, _⟩ := h; rfl) | (obtain ⟨_, _, _, _, _, _, _, _, _, _, _, _, _, _, _, _, _, rfl, _⟩ := h; rfl) | (obtain ⟨_, _, _, _, _, _, _, _, _, _, _, _, _, _, _, _, _, _, rfl, _⟩ := h; rfl) | (obtain ⟨_, _, _, _, _, _, _, _, _, _, _, _, _, _, _, _, _, _, _, rfl, _⟩ := h; rfl) | (obtain ⟨_, _, _, _, _, _, _, _, _, _, _, _, _, _, _, _, _, _, _, _, rfl, _⟩ := h; rfl) | (obtain ⟨_, _, _, _, _, _, _, _, _, _, _, _, _, _, _, _, _, _, _, _, _, rfl, _⟩ := h; rfl) | (obtain ⟨_, _, _, _, _, _, _, _, _, _, _, _, _, _, _, _, _, _, _, _, _, _, rfl, _⟩ := h; rfl) | (obtain ⟨_, _, _, _, _, _, _, _, _, _, _, _, _, _, _, _, _, _, _, _, _, _, _, rfl, _⟩ := h; rfl) | (obtain ⟨_, _, _, _, _, _, _, _, _, _, _, _, _, _, _, _, _, _, _, _, _, _, _, _, rfl, _⟩ := h; rfl) | (obtain ⟨_, _, _, _, _, _, _, _, _, _, _, _, _, _, _, _, _, _, _, _, _, _, _, _, _, rfl, _⟩ := h; rfl)) (fun cdv A outer s H vs Q E hr h => ⟨_, d_as_ratioX g_Ratio m_isinstance c_is_whole cm1_Ratio hr, p_asRX h⟩)
theorem sc_Ratio_overX : FnScope ["self", "other", "right"] ["self", "other"] (defScope s_Ratio_overX) := ⟨rfl, rfl, rfl, by decide +kernel, rfl, by decide +kernel, by decide +kernel⟩
theorem d_Ratio_overX {P : Program} {w : World} {K : PySem.W.Frag} {mg : Str → Option Value} {base : Heap} {C_Ratio : Addr} {C_InvalidNumber : Addr} {f : Addr} {cdv : Value} {A : Around} {outer : List Env} {s : Shared} {H : Hp} {E : XK} (c_as_ratioX : Cal P w K mg base CX0 4 "as_ratio" ["value"] (spAsRX K C_Ratio)) (cx_InvalidNumber : CalX P w K mg base CX0 1 "InvalidNumber" C_InvalidNumber ["self", "value"] (spExc K C_InvalidNumber "ValueError" "ValueError.__new__" "ValueError.__init__" bm_ValueError "value") [] "ValueError" "ValueError.__new__" "ValueError.__init__" bm_ValueError) (cmx2_Ratio : CalM P w K mg base (L2.CX P w) 3 "Ratio" C_Ratio ["self", "numerator", "denominator"] (spRInitX K C_Ratio C_InvalidNumber) [])
    (hr : Room 5 (A.deeper (envOfC "Ratio.over" (defScope s_Ratio_overX) s.heap.objs.size f cdv))) :
    PSs (cxOf (L2.CX P w) P w K mg base ["self", "other", "right"] "Ratio.over" (defScope s_Ratio_overX) f cdv A outer s H E) (defBody s_Ratio_overX) (t_Ratio_overX K C_Ratio C_InvalidNumber E) :=
  (pss_cons (ps_set (i := 2) sc_Ratio_overX.nd rfl (by first | exact Or.inl rfl | exact Or.inr rfl) (pe_cal c_as_ratioX (hr.mono (by decide)) rfl pass0 (pa_cons (pv 1) pa_nil)))
    (pss_cons (ps_if (PW.pt (pw_or (pt_cmpR op_isN (pv 2) pe_non (nomark _)) (pw_or1 (pt_cmpR op_eq (pe_fld (pv 2) rfl) pe_int (nomark _))))) (pss_one (ps_raiseE (pmk_cal cx_InvalidNumber (hr.mono (by decide)) pass0 (by rfl) (pa_cons (pv 1) pa_nil)) (takes_of rfl rfl rfl rfl))) pss_nil)
    (pss_one (ps_ret (pe_calm cmx2_Ratio (hr.mono (by decide)) (by rfl) passE0 (pa_cons (pe_op op_mulW (pe_fld (pv 0) rfl) (pe_fld (pv 2) rfl)) (pa_cons (pe_op op_mulW (pe_fld (pv 0) rfl) (pe_fld (pv 2) rfl)) pa_nil)))))))
theorem ok_Ratio_overX {P : Program} {w : World} {K : PySem.W.Frag} {mg : Str → Option Value} {base : Heap} {C_Ratio : Addr} {C_InvalidNumber : Addr} {f : Addr} {fd : FuncData} (F : FunD K "over" "Ratio.over" (defArgs s_Ratio_overX) (defBody s_Ratio_overX) (defScope s_Ratio_overX) [] [] f fd) (c_as_ratioX : Cal P w K mg base CX0 4 "as_ratio" ["value"] (spAsRX K C_Ratio)) (cx_InvalidNumber : CalX P w K mg base CX0 1 "InvalidNumber" C_InvalidNumber ["self", "value"] (spExc K C_InvalidNumber "ValueError" "ValueError.__new__" "ValueError.__init__" bm_ValueError "value") [] "ValueError" "ValueError.__new__" "ValueError.__init__" bm_ValueError) (cmx2_Ratio : CalM P w K mg base (L2.CX P w) 3 "Ratio" C_Ratio ["self", "numerator", "denominator"] (spRInitX K C_Ratio C_InvalidNumber) []) : FnOk P w K mg base (L2.CX P w) 6 f fd ["self", "other"] (spOverX K C_Ratio C_InvalidNumber) :=
  F.ok sc_Ratio_overX (fun vs H Q E h => by first | (obtain ⟨_, rfl, _⟩ := h; rfl) | (obtain ⟨_, _, rfl, _⟩ := h; rfl) | (obtain ⟨_, _, _, rfl, _⟩ := h; rfl) | (obtain ⟨_, _, _, _, rfl, _⟩ := h; rfl) | (obtain ⟨_, _, _, _, _, rfl, _⟩ := h; rfl) | (obtain ⟨_, _, _, _, _, _, rfl, _⟩ := h; rfl) | (obtain ⟨_, _, _, _, _, _, _, rfl, _⟩ := h; rfl) | (obtain ⟨_, _, _, _, _, _, _, _, rfl, _⟩ := h; rfl) | (obtain ⟨_, _, _, _, _, _, _, _, _, rfl, _⟩ := h; rfl) | (obtain ⟨_, _, _, _, _, _, _, _, _, _, rfl, _⟩ := h; rfl) | (obtain ⟨_, _, _, _, _, _, _, _, _, _, _, rfl, _⟩ := h; rfl) | (obtain ⟨_, _, _, _, _, _, _, _, _, _, _, _, rfl, _⟩ := h; rfl) | (obtain ⟨_, _, _, _, _, _, _, _, _, _, _, _, _, rfl, _⟩ := h; rfl) | (obtain ⟨_, _, _, _, _, _, _, _, _, _, _, _, _, _, rfl, _⟩ := h; rfl) | (obtain ⟨_, _, _, _, _, _, _, _, _, _, _, _, _, _, _, rfl, _⟩ := h; rfl) | (obtain ⟨_, _, _, _, _, _, _, _, _, _, _, _, _, _, _, _, rfl, _⟩ := h; rfl) | (obtain ⟨_, _, _, _, _, _, _, _, _, _, _, _, _, _, _, _, _, rfl, _⟩ := h; rfl) | (obtain ⟨_, _, _, _, _, _, _, _, _, _, _, _, _, _, _, _, _, _, rfl, _⟩ := h; rfl) | (obtain ⟨_, _, _, _, _, _, _, _, _, _, _, _, _, _, _, _, _, _, _, rfl, _⟩ := h; rfl) | (obtain ⟨_, _, _, _, _, _, _, _, _, _, _, _, _, _, _, _, _, _, _, _, rfl, _⟩ := h; rfl) | (obtain ⟨_, _, _, _, _, _, _, _, _, _, _, _, _, _, _, _, _, _, _, _, _, rfl, _⟩ := h; rfl) | (obtain ⟨_, _, _, _, _, _, _, _, _, _, _, _, _, _, _, _, _, _, _, _, _, _, rfl, _⟩ := h; rfl) | (obtain ⟨_, _, _, _, _, _, _, _, _, _, _, _, _, _, _, _, _, _, _, _, _, _, _, rfl, _⟩ := h; rfl) | (obtain ⟨_, _, _, _, _, _, _, _, _, _, _, _, _, _, _, _, _, _, _, _, _, _, _, _, rfl, _⟩ := h; rfl) | (obtain ⟨_, _, _, _, _, _, _, _, _, _, _, _, _, _, _, _, _, _, _, _, _, _, _, _, _, rfl, _⟩ := h; rfl)) (fun cdv A outer s H vs Q E hr h => ⟨_, d_Ratio_overX c_as_ratioX cx_InvalidNumber cmx2_Ratio hr, p_overX h⟩)
theorem sc_Ratio___add__ : FnScope ["self", "other", "right", "top"] ["self", "other"] (defScope s_Ratio___add__) := ⟨rfl, rfl, rfl, by decide +kernel, rfl, by decide +kernel, by decide +kernel⟩
theorem d_Ratio___add__ {P : Program} {w : World} {K : PySem.W.Frag} {mg : Str → Option Value} {base : Heap} {C_Ratio : Addr} {CX : CXT} {f : Addr} {cdv : Value} {A : Around} {outer : List Env} {s : Shared} {H : Hp} {E : XK} (c_as_ratio : Cal P w K mg base CX0 4 "as_ratio" ["value"] (spAsR K C_Ratio)) (cm2_Ratio : CalM P w K mg base CX0 2 "Ratio" C_Ratio ["self", "numerator", "denominator"] (spRInit K C_Ratio) [])
    (hr : Room 4 (A.deeper (envOfC "Ratio.__add__" (defScope s_Ratio___add__) s.heap.objs.size f cdv))) :
    PSs (cxOf CX P w K mg base ["self", "other", "right", "top"] "Ratio.__add__" (defScope s_Ratio___add__) f cdv A outer s H E) (defBody s_Ratio___add__) (t_Ratio___add__ K C_Ratio) :=
  (pss_cons (ps_set (i := 2) sc_Ratio___add__.nd rfl (by first | exact Or.inl rfl | exact Or.inr rfl) (pe_cal c_as_ratio (hr.mono (by decide)) rfl pass0 (pa_cons (pv 1) pa_nil)))
    (pss_cons (ps_if (pt_cmpR op_isN (pv 2) pe_non (nomark _)) (pss_one ps_never) pss_nil)
    (pss_cons (ps_set (i := 3) sc_Ratio___add__.nd rfl (by first | exact Or.inl rfl | exact Or.inr rfl) (pe_op op_add (pe_op op_mulW (pe_fld (pv 0) rfl) (pe_fld (pv 2) rfl)) (pe_op op_mulW (pe_fld (pv 2) rfl) (pe_fld (pv 0) rfl))))
    (pss_one (ps_ret (pe_calm cm2_Ratio (hr.mono (by decide)) (by rfl) pass0 (pa_cons (pv 3) (pa_cons (pe_op op_mulW (pe_fld (pv 0) rfl) (pe_fld (pv 2) rfl)) pa_nil))))))))
theorem ok_Ratio___add__ {P : Program} {w : World} {K : PySem.W.Frag} {mg : Str → Option Value} {base : Heap} {C_Ratio : Addr} {f : Addr} {fd : FuncData} (F : FunD K "__add__" "Ratio.__add__" (defArgs s_Ratio___add__) (defBody s_Ratio___add__) (defScope s_Ratio___add__) [] [] f fd) (c_as_ratio : Cal P w K mg base CX0 4 "as_ratio" ["value"] (spAsR K C_Ratio)) (cm2_Ratio : CalM P w K mg base CX0 2 "Ratio" C_Ratio ["self", "numerator", "denominator"] (spRInit K C_Ratio) []) : FnOk P w K mg base CX0 5 f fd ["self", "other"] (spAdd K C_Ratio) :=
  F.ok sc_Ratio___add__ (fun vs H Q E h => by first | (obtain ⟨_, rfl, _⟩ := h; rfl) | (obtain ⟨_, _, rfl, _⟩ := h; rfl) | (obtain ⟨_, _, _, rfl, _⟩ := h; rfl) | (obtain ⟨_, _, _, _, rfl, _⟩ := h; rfl) | (obtain ⟨_, _, _, _, _, rfl, _⟩ := h; rfl) | (obtain ⟨_, _, _, _, _, _, rfl, _⟩ := h; rfl) | (obtain ⟨_, _, _, _, _, _, _, rfl, _⟩ := h; rfl) | (obtain ⟨_, _, _, _, _, _, _, _, rfl, _⟩ := h; rfl) | (obtain ⟨_, _, _, _, _, _, _, _, _, rfl, _⟩ := h; rfl) | (obtain ⟨_, _, _, _, _, _, _, _, _, _, rfl, _⟩ := h; rfl) | (obtain ⟨_, _, _, _, _, _, _, _, _, _, _, rfl, _⟩ := h; rfl) | (obtain ⟨_, _, _, _, _, _, _, _, _, _, _, _, rfl, _⟩ := h; rfl) | (obtain ⟨_, _, _, _, _, _, _, _, _, _, _, _, _, rfl, _⟩ := h; rfl) | (obtain ⟨_, _, _, _, _, _, _, _, _, _, _, _, _, _, rfl, _⟩ := h; rfl) | (obtain ⟨_, _, _, _, _, _, _, _, _, _, _, _, _, _, _, rfl, _⟩ := h; rfl) | (obtain ⟨_, _, _, _, _, _, _, _, _, _, _, _, _, _, _, _, rfl, _⟩ := h; rfl) | (obtain ⟨_, _, _, _, _, _, _, _, _, _, _, _, _, _, _, _, _, rfl, _⟩ := h; rfl) | (obtain ⟨_, _, _, _, _, _, _, _, _, _, _, _, _, _, _, _, _, _, rfl, _⟩ := h; rfl) | (obtain ⟨_, _, _, _, _, _, _, _, _, _, _, _, _, _, _, _, _, _, _, rfl, _⟩ := h; rfl) | (obtain ⟨_, _, _, _, _, _, _, _, _, _, _, _, _, _, _, _, _, _, _, _, rfl, _⟩ := h; rfl) | (obtain ⟨_, _, _, _, _, _, _, _, _, _, _, _, _, _, _, _, _, _, _, _, _, rfl, _⟩ := h; rfl) | (obtain ⟨_, _, _, _, _, _, _, _, _, _, _, _, _, _, _, _, _, _, _, _, _, _, rfl, _⟩ := h; rfl) | (obtain ⟨_, _, _, _, _, _, _, _, _, _, _, _, _, _, _, _, _, _, _, _, _, _, _, rfl, _⟩ := h; rfl) | (obtain ⟨_, _, _, _, _, _, _, _, _, _, _, _, _, _, _, _, _, _, _, _, _, _, _, _, rfl, _⟩ := h; rfl) | (obtain ⟨_, _, _, _, _, _, _, _, _, _, _, _, _, _, _, _, _, _, _, _, _, _, _, _, _, rfl, _⟩ := h; rfl)) (fun cdv A outer s H vs Q E hr h => ⟨_, d_Ratio___add__ c_as_ratio cm2_Ratio hr, p_add h⟩)
theorem sc_Ratio___radd__ : FnScope ["self", "other"] ["self", "other"] (defScope s_Ratio___radd__) := ⟨rfl, rfl, rfl, by decide +kernel, rfl, by decide +kernel, by decide +kernel⟩
theorem d_Ratio___radd__ {P : Program} {w : World} {K : PySem.W.Frag} {mg : Str → Option Value} {base : Heap} {C_Ratio : Addr} {CX : CXT} {f : Addr} {cdv : Value} {A : Around} {outer : List Env} {s : Shared} {H : Hp} {E : XK} (co_add : CalO P w K mg base CX0 5 C_Ratio "__add__" (spAdd K C_Ratio)) (oc_R : OpC K C_Ratio) (on_add : OpN K C_Ratio "add")
    (hr : Room 5 (A.deeper (envOfC "Ratio.__radd__" (defScope s_Ratio___radd__) s.heap.objs.size f cdv))) :
    PSs (cxOf CX P w K mg base ["self", "other"] "Ratio.__radd__" (defScope s_Ratio___radd__) f cdv A outer s H E) (defBody s_Ratio___radd__) (t_Ratio___radd__ K C_Ratio) :=
  (pss_one (ps_ret (pe_op (op_ownAdd co_add oc_R on_add (hr.mono (by decide)) pass0) (pv 0) (pv 1))))
theorem ok_Ratio___radd__ {P : Program} {w : World} {K : PySem.W.Frag} {mg : Str → Option Value} {base : Heap} {C_Ratio : Addr} {f : Addr} {fd : FuncData} (F : FunD K "__radd__" "Ratio.__radd__" (defArgs s_Ratio___radd__) (defBody s_Ratio___radd__) (defScope s_Ratio___radd__) [] [] f fd) (co_add : CalO P w K mg base CX0 5 C_Ratio "__add__" (spAdd K C_Ratio)) (oc_R : OpC K C_Ratio) (on_add : OpN K C_Ratio "add") : FnOk P w K mg base CX0 6 f fd ["self", "other"] (spRadd K C_Ratio) :=
  F.ok sc_Ratio___radd__ (fun vs H Q E h => by first | (obtain ⟨_, rfl, _⟩ := h; rfl) | (obtain ⟨_, _, rfl, _⟩ := h; rfl) | (obtain ⟨_, _, _, rfl, _⟩ := h; rfl) | (obtain ⟨_, _, _, _, rfl, _⟩ := h; rfl) | (obtain ⟨_, _, _, _, _, rfl, _⟩ := h; rfl) | (obtain ⟨_, _, _, _, _, _, rfl, _⟩ := h; rfl) | (obtain ⟨_, _, _, _, _, _, _, rfl, _⟩ := h; rfl) | (obtain ⟨_, _, _, _, _, _, _, _, rfl, _⟩ := h; rfl) | (obtain ⟨_, _, _, _, _, _, _, _, _, rfl, _⟩ := h; rfl) | (obtain ⟨_, _, _, _, _, _, _, _, _, _, rfl, _⟩ := h; rfl) | (obtain ⟨_, _, _, _, _, _, _, _, _, _, _, rfl, _⟩ := h; rfl) | (obtain ⟨_, _, _, _, _, _, _, _, _, _, _, _, rfl, _⟩ := h; rfl) | (obtain ⟨_, _, _, _, _, _, _, _, _, _, _, _, _, rfl, _⟩ := h; rfl) | (obtain ⟨_, _, _, _, _, _, _, _, _, _, _, _, _, _, rfl, _⟩ := h; rfl) | (obtain ⟨_, _, _, _, _, _, _, _, _, _, _, _, _, _, _, rfl, _⟩ := h; rfl) | (obtain ⟨_, _, _, _, _, _, _, _, _, _, _, _, _, _, _, _, rfl, _⟩ := h; rfl) | (obtain ⟨_, _, _, _, _, _, _, _, _, _, _, _, _, _, _, _, _, rfl, _⟩ := h; rfl) | (obtain ⟨_, _, _, _, _, _, _, _, _, _, _, _, _, _, _, _, _, _, rfl, _⟩ := h; rfl) | (obtain ⟨_, _, _, _, _, _, _, _, _, _, _, _, _, _, _, _, _, _, _, rfl, _⟩ := h; rfl) | (obtain ⟨_, _, _, _, _, _, _, _, _, _, _, _, _, _, _, _, _, _, _, _, rfl, _⟩ := h; rfl) | (obtain ⟨_, _, _, _, _, _, _, _, _, _, _, _, _, _, _, _, _, _, _, _, _, rfl, _⟩ := h; rfl) | (obtain ⟨_, _, _, _, _, _, _, _, _, _, _, _, _, _, _, _, _, _, _, _, _, _, rfl, _⟩ := h; rfl) | (obtain ⟨_, _, _, _, _, _, _, _, _, _, _, _, _, _, _, _, _, _, _, _, _, _, _, rfl, _⟩ := h; rfl) | (obtain ⟨_, _, _, _, _, _, _, _, _, _, _, _, _, _, _, _, _, _, _, _, _, _, _, _, rfl, _⟩ := h; rfl) | (obtain ⟨_, _, _, _, _, _, _, _, _, _, _, _, _, _, _, _, _, _, _, _, _, _, _, _, _, rfl, _⟩ := h; rfl)) (fun cdv A outer s H vs Q E hr h => ⟨_, d_Ratio___radd__ co_add oc_R on_add hr, p_raddI h⟩)
theorem sc_Ratio___sub__ : FnScope ["self", "other", "right"] ["self", "other"] (defScope s_Ratio___sub__) := ⟨rfl, rfl, rfl, by decide +kernel, rfl, by decide +kernel, by decide +kernel⟩
theorem d_Ratio___sub__ {P : Program} {w : World} {K : PySem.W.Frag} {mg : Str → Option Value} {base : Heap} {C_Ratio : Addr} {CX : CXT} {f : Addr} {cdv : Value} {A : Around} {outer : List Env} {s : Shared} {H : Hp} {E : XK} (c_as_ratio : Cal P w K mg base CX0 4 "as_ratio" ["value"] (spAsR K C_Ratio)) (c_gap : Cal P w K mg base CX0 1 "gap" ["left", "right"] (spGap K C_Ratio)) (cm2_Ratio : CalM P w K mg base CX0 2 "Ratio" C_Ratio ["self", "numerator", "denominator"] (spRInit K C_Ratio) [])
    (hr : Room 4 (A.deeper (envOfC "Ratio.__sub__" (defScope s_Ratio___sub__) s.heap.objs.size f cdv))) :
    PSs (cxOf CX P w K mg base ["self", "other", "right"] "Ratio.__sub__" (defScope s_Ratio___sub__) f cdv A outer s H E) (defBody s_Ratio___sub__) (t_Ratio___sub__ K C_Ratio) :=
  (pss_cons (ps_set (i := 2) sc_Ratio___sub__.nd rfl (by first | exact Or.inl rfl | exact Or.inr rfl) (pe_cal c_as_ratio (hr.mono (by decide)) rfl pass0 (pa_cons (pv 1) pa_nil)))
    (pss_cons (ps_if (pt_cmpR op_isN (pv 2) pe_non (nomark _)) (pss_one ps_never) pss_nil)
    (pss_one (ps_ret (pe_calm cm2_Ratio (hr.mono (by decide)) (by rfl) pass0 (pa_cons (pe_cal c_gap (hr.mono (by decide)) rfl pass0 (pa_cons (pv 0) (pa_cons (pv 2) pa_nil))) (pa_cons (pe_op op_mulW (pe_fld (pv 0) rfl) (pe_fld (pv 2) rfl)) pa_nil)))))))
theorem ok_Ratio___sub__ {P : Program} {w : World} {K : PySem.W.Frag} {mg : Str → Option Value} {base : Heap} {C_Ratio : Addr} {f : Addr} {fd : FuncData} (F : FunD K "__sub__" "Ratio.__sub__" (defArgs s_Ratio___sub__) (defBody s_Ratio___sub__) (defScope s_Ratio___sub__) [] [] f fd) (c_as_ratio : Cal P w K mg base CX0 4 "as_ratio" ["value"] (spAsR K C_Ratio)) (c_gap : Cal P w K mg base CX0 1 "gap" ["left", "right"] (spGap K C_Ratio)) (cm2_Ratio : CalM P w K mg base CX0 2 "Ratio" C_Ratio ["self", "numerator", "denominator"] (spRInit K C_Ratio) []) : FnOk P w K mg base CX0 5 f fd ["self", "other"] (spSub K C_Ratio) :=
  F.ok sc_Ratio___sub__ (fun vs H Q E h => by first | (obtain ⟨_, rfl, _⟩ := h; rfl) | (obtain ⟨_, _, rfl, _⟩ := h; rfl) | (obtain ⟨_, _, _, rfl, _⟩ := h; rfl) | (obtain ⟨_, _, _, _, rfl, _⟩ := h; rfl) | (obtain ⟨_, _, _, _, _, rfl, _⟩ := h; rfl) | (obtain ⟨_, _, _, _, _, _, rfl, _⟩ := h; rfl) | (obtain ⟨_, _, _, _, _, _, _, rfl, _⟩ := h; rfl) | (obtain ⟨_, _, _, _, _, _, _, _, rfl, _⟩ := h; rfl) | (obtain ⟨_, _, _, _, _, _, _, _, _, rfl, _⟩ := h; rfl) | (obtain ⟨_, _, _, _, _, _, _, _, _, _, rfl, _⟩ := h; rfl) | (obtain ⟨_, _, _, _, _, _, _, _, _, _, _, rfl, _⟩ := h; rfl) | (obtain ⟨_, _, _, _, _, _, _, _, _, _, _, _, rfl, _⟩ := h; rfl) | (obtain ⟨_, _, _, _, _, _, _, _, _, _, _, _, _, rfl, _⟩ := h; rfl) | (obtain ⟨_, _, _, _, _, _, _, _, _, _, _, _, _, _, rfl, _⟩ := h; rfl) | (obtain ⟨_, _, _, _, _, _, _, _, _, _, _, _, _, _, _, rfl, _⟩ := h; rfl) | (obtain ⟨_, _, _, _, _, _, _, _, _, _, _, _, _, _, _, _, rfl, _⟩ := h; rfl) | (obtain ⟨_, _, _, _, _, _, _, _, _, _, _, _, _, _, _, _, _, rfl, _⟩ := h; rfl) | (obtain ⟨_, _, _, _, _, _, _, _, _, _, _, _, _, _, _, _, _, _, rfl, _⟩ := h; rfl) | (obtain ⟨_, _, _, _, _, _, _, _, _, _, _, _, _, _, _, _, _, _, _, rfl, _⟩ := h; rfl) | (obtain ⟨_, _, _, _, _, _, _, _, _, _, _, _, _, _, _, _, _, _, _, _, rfl, _⟩ := h; rfl) | (obtain ⟨_, _, _, _, _, _, _, _, _, _, _, _, _, _, _, _, _, _, _, _, _, rfl, _⟩ := h; rfl) | (obtain ⟨_, _, _, _, _, _, _, _, _, _, _, _, _, _, _, _, _, _, _, _, _, _, rfl, _⟩ := h; rfl) | (obtain ⟨_, _, _, _, _, _, _, _, _, _, _, _, _, _, _, _, _, _, _, _, _, _, _, rfl, _⟩ := h; rfl) | (obtain ⟨_, _, _, _, _, _, _, _, _, _, _, _, _, _, _, _, _, _, _, _, _, _, _, _, rfl, _⟩ := h; rfl) | (obtain ⟨_, _, _, _, _, _, _, _, _, _, _, _, _, _, _, _, _, _, _, _, _, _, _, _, _, rfl, _⟩ := h; rfl)) (fun cdv A outer s H vs Q E hr h => ⟨_, d_Ratio___sub__ c_as_ratio c_gap cm2_Ratio hr, p_sub h⟩)
theorem sc_Ratio___neg__ : FnScope ["self"] ["self"] (defScope s_Ratio___neg__) := ⟨rfl, rfl, rfl, by decide +kernel, rfl, by decide +kernel, by decide +kernel⟩
theorem d_Ratio___neg__ {P : Program} {w : World} {K : PySem.W.Frag} {mg : Str → Option Value} {base : Heap} {C_Ratio : Addr} {C_InvalidNumber : Addr} {CX : CXT} {f : Addr} {cdv : Value} {A : Around} {outer : List Env} {s : Shared} {H : Hp} {E : XK} (cmx2_Ratio : CalM P w K mg base (L2.CX P w) 3 "Ratio" C_Ratio ["self", "numerator", "denominator"] (spRInitX K C_Ratio C_InvalidNumber) [])
    (hr : Room 4 (A.deeper (envOfC "Ratio.__neg__" (defScope s_Ratio___neg__) s.heap.objs.size f cdv))) :
    PSs (cxOf CX P w K mg base ["self"] "Ratio.__neg__" (defScope s_Ratio___neg__) f cdv A outer s H E) (defBody s_Ratio___neg__) (t_Ratio___neg__ K C_Ratio C_InvalidNumber) :=
  (pss_one (ps_ret (pe_calm cmx2_Ratio (hr.mono (by decide)) (by rfl) passE0 (pa_cons (pe_un un_neg (pe_fld (pv 0) rfl)) (pa_cons (pe_fld (pv 0) rfl) pa_nil)))))
theorem ok_Ratio___neg__ {P : Program} {w : World} {K : PySem.W.Frag} {mg : Str → Option Value} {base : Heap} {C_Ratio : Addr} {C_InvalidNumber : Addr} {f : Addr} {fd : FuncData} (F : FunD K "__neg__" "Ratio.__neg__" (defArgs s_Ratio___neg__) (defBody s_Ratio___neg__) (defScope s_Ratio___neg__) [] [] f fd) (cmx2_Ratio : CalM P w K mg base (L2.CX P w) 3 "Ratio" C_Ratio ["self", "numerator", "denominator"] (spRInitX K C_Ratio C_InvalidNumber) []) : FnOk P w K mg base CX0 5 f fd ["self"] (spNegR K C_Ratio C_InvalidNumber) :=
  F.ok sc_Ratio___neg__ (fun vs H Q E h => by first | (obtain ⟨_, rfl, _⟩ := h; rfl) | (obtain ⟨_, _, rfl, _⟩ := h; rfl) | (obtain ⟨_, _, _, rfl, _⟩ := h; rfl) | (obtain ⟨_, _, _, _, rfl, _⟩ := h; rfl) | (obtain ⟨_, _, _, _, _, rfl, _⟩ := h; rfl) | (obtain ⟨_, _, _, _, _, _, rfl, _⟩ := h; rfl) | (obtain ⟨_, _, _, _, _, _, _, rfl, _⟩ := h; rfl) | (obtain ⟨_, _, _, _, _, _, _, _, rfl, _⟩ := h; rfl) | (obtain ⟨_, _, _, _, _, _, _, _, _, rfl, _⟩ := h; rfl) | (obtain ⟨_, _, _, _, _, _, _, _, _, _, rfl, _⟩ := h; rfl) | (obtain ⟨_, _, _, _, _, _, _, _, _, _, _, rfl, _⟩ := h; rfl) | (obtain ⟨_, _, _, _, _, _, _, _, _, _, _, _, rfl, _⟩ := h; rfl) | (obtain ⟨_, _, _, _, _, _, _, _, _, _, _, _, _, rfl, _⟩ := h; rfl) | (obtain ⟨_, _, _, _, _, _, _, _, _, _, _, _, _, _, rfl, _⟩ := h; rfl) | (obtain ⟨_, _, _, _, _, _, _, _, _, _, _, _, _, _, _, rfl, _⟩ := h; rfl) | (obtain ⟨_, _, _, _, _, _, _, _, _, _, _, _, _, _, _, _, rfl, _⟩ := h; rfl) | (obtain ⟨_, _, _, _, _, _, _, _, _, _, _, _, _, _, _, _, _, rfl, _⟩ := h; rfl) | (obtain ⟨_, _, _, _, _, _, _, _, _, _, _, _, _, _, _, _, _, _, rfl, _⟩ := h; rfl) | (obtain ⟨_, _, _, _, _, _, _, _, _, _, _, _, _, _, _, _, _, _, _, rfl, _⟩ := h; rfl) | (obtain ⟨_, _, _, _, _, _, _, _, _, _, _, _, _, _, _, _, _, _, _, _, rfl, _⟩ := h; rfl) | (obtain ⟨_, _, _, _, _, _, _, _, _, _, _, _, _, _, _, _, _, _, _, _, _, rfl, _⟩ := h; rfl) | (obtain ⟨_, _, _, _, _, _, _, _, _, _, _, _, _, _, _, _, _, _, _, _, _, _, rfl, _⟩ := h; rfl) | (obtain ⟨_, _, _, _, _, _, _, _, _, _, _, _, _, _, _, _, _, _, _, _, _, _, _, rfl, _⟩ := h; rfl) | (obtain ⟨_, _, _, _, _, _, _, _, _, _, _, _, _, _, _, _, _, _, _, _, _, _, _, _, rfl, _⟩ := h; rfl) | (obtain ⟨_, _, _, _, _, _, _, _, _, _, _, _, _, _, _, _, _, _, _, _, _, _, _, _, _, rfl, _⟩ := h; rfl)) (fun cdv A outer s H vs Q E hr h => ⟨_, d_Ratio___neg__ cmx2_Ratio hr, p_negR h⟩)
theorem sc_Ratio___rsub__ : FnScope ["self", "other"] ["self", "other"] (defScope s_Ratio___rsub__) := ⟨rfl, rfl, rfl, by decide +kernel, rfl, by decide +kernel, by decide +kernel⟩
theorem d_Ratio___rsub__ {P : Program} {w : World} {K : PySem.W.Frag} {mg : Str → Option Value} {base : Heap} {C_Ratio : Addr} {C_InvalidNumber : Addr} {CX : CXT} {f : Addr} {cdv : Value} {A : Around} {outer : List Env} {s : Shared} {H : Hp} {E : XK} (cs_neg : CalS P w K mg base CX0 5 C_Ratio "__neg__" (spNegR K C_Ratio C_InvalidNumber)) (co_add : CalO P w K mg base CX0 5 C_Ratio "__add__" (spAdd K C_Ratio)) (oc_R : OpC K C_Ratio) (on_add : OpN K C_Ratio "add")
    (hr : Room 5 (A.deeper (envOfC "Ratio.__rsub__" (defScope s_Ratio___rsub__) s.heap.objs.size f cdv))) :
    PSs (cxOf CX P w K mg base ["self", "other"] "Ratio.__rsub__" (defScope s_Ratio___rsub__) f cdv A outer s H E) (defBody s_Ratio___rsub__) (t_Ratio___rsub__ K C_Ratio C_InvalidNumber) :=
  (pss_one (ps_ret (pe_op (op_ownAdd co_add oc_R on_add (hr.mono (by decide)) pass0) (pe_un (un_ownN cs_neg (hr.mono (by decide)) pass0) (pv 0)) (pv 1))))
theorem ok_Ratio___rsub__ {P : Program} {w : World} {K : PySem.W.Frag} {mg : Str → Option Value} {base : Heap} {C_Ratio : Addr} {C_InvalidNumber : Addr} {f : Addr} {fd : FuncData} (F : FunD K "__rsub__" "Ratio.__rsub__" (defArgs s_Ratio___rsub__) (defBody s_Ratio___rsub__) (defScope s_Ratio___rsub__) [] [] f fd) (cs_neg : CalS P w K mg base CX0 5 C_Ratio "__neg__" (spNegR K C_Ratio C_InvalidNumber)) (co_add : CalO P w K mg base CX0 5 C_Ratio "__add__" (spAdd K C_Ratio)) (oc_R : OpC K C_Ratio) (on_add : OpN K C_Ratio "add") : FnOk P w K mg base CX0 6 f fd ["self", "other"] (spRsub K C_Ratio C_InvalidNumber) :=
  F.ok sc_Ratio___rsub__ (fun vs H Q E h => by first | (obtain ⟨_, rfl, _⟩ := h; rfl) | (obtain ⟨_, _, rfl, _⟩ := h; rfl) | (obtain ⟨_, _, _, rfl, _⟩ := h; rfl) | (obtain ⟨_, _, _, _, rfl, _⟩ := h; rfl) | (obtain ⟨_, _, _, _, _, rfl, _⟩ := h; rfl) | (obtain ⟨_, _, _, _, _, _, rfl, _⟩ := h; rfl) | (obtain ⟨_, _, _, _, _, _, _, rfl, _⟩ := h; rfl) | (obtain ⟨_, _, _, _, _, _, _, _, rfl, _⟩ := h; rfl) | (obtain ⟨_, _, _, _, _, _, _, _, _, rfl, _⟩ := h; rfl) | (obtain ⟨_, _, _, _, _, _, _, _, _, _, rfl, _⟩ := h; rfl) | (obtain ⟨_, _, _, _, _, _, _, _, _, _, _, rfl, _⟩ := h; rfl) | (obtain ⟨_, _, _, _, _, _, _, _, _, _, _, _, rfl, _⟩ := h; rfl) | (obtain ⟨_, _, _, _, _, _, _, _, _, _, _, _, _, rfl, _⟩ := h; rfl) | (obtain ⟨_, _, _, _, _, _, _, _, _, _, _, _, _, _, rfl, _⟩ := h; rfl) | (obtain ⟨_, _, _, _, _, _, _, _, _, _, _, _, _, _, _, rfl, _⟩ := h; rfl) | (obtain ⟨_, _, _, _, _, _, _, _, _, _, _, _, _, _, _, _, rfl, _⟩ := h; rfl) | (obtain ⟨_, _, _, _, _, _, _, _, _, _, _, _, _, _, _, _, _, rfl, _⟩ := h; rfl) | (obtain ⟨_, _, _, _, _, _, _, _, _, _, _, _, _, _, _, _, _, _, rfl, _⟩ := h; rfl) | (obtain ⟨_, _, _, _, _, _, _, _, _, _, _, _, _, _, _, _, _, _, _, rfl, _⟩ := h; rfl) | (obtain ⟨_, _, _, _, _, _, _, _, _, _, _, _, _, _, _, _, _, _, _, _, rfl, _⟩ := h; rfl) | (obtain ⟨_, _, _, _, _, _, _, _, _, _, _, _, _, _, _, _, _, _, _, _, _, rfl, _⟩ := h; rfl) | (obtain ⟨_, _, _, _, _, _, _, _, _, _, _, _, _, _, _, _, _, _, _, _, _, _, rfl, _⟩ := h; rfl) | (obtain ⟨_, _, _, _, _, _, _, _, _, _, _, _, _, _, _, _, _, _, _, _, _, _, _, rfl, _⟩ := h; rfl) | (obtain ⟨_, _, _, _, _, _, _, _, _, _, _, _, _, _, _, _, _, _, _, _, _, _, _, _, rfl, _⟩ := h; rfl) | (obtain ⟨_, _, _, _, _, _, _, _, _, _, _, _, _, _, _, _, _, _, _, _, _, _, _, _, _, rfl, _⟩ := h; rfl)) (fun cdv A outer s H vs Q E hr h => ⟨_, d_Ratio___rsub__ cs_neg co_add oc_R on_add hr, p_rsubI h⟩)
theorem sc_Ratio___mul__ : FnScope ["self", "other", "right"] ["self", "other"] (defScope s_Ratio___mul__) := ⟨rfl, rfl, rfl, by decide +kernel, rfl, by decide +kernel, by decide +kernel⟩
theorem d_Ratio___mul__ {P : Program} {w : World} {K : PySem.W.Frag} {mg : Str → Option Value} {base : Heap} {C_Ratio : Addr} {CX : CXT} {f : Addr} {cdv : Value} {A : Around} {outer : List Env} {s : Shared} {H : Hp} {E : XK} (c_as_ratio : Cal P w K mg base CX0 4 "as_ratio" ["value"] (spAsR K C_Ratio)) (cm2_Ratio : CalM P w K mg base CX0 2 "Ratio" C_Ratio ["self", "numerator", "denominator"] (spRInit K C_Ratio) [])
    (hr : Room 4 (A.deeper (envOfC "Ratio.__mul__" (defScope s_Ratio___mul__) s.heap.objs.size f cdv))) :
    PSs (cxOf CX P w K mg base ["self", "other", "right"] "Ratio.__mul__" (defScope s_Ratio___mul__) f cdv A outer s H E) (defBody s_Ratio___mul__) (t_Ratio___mul__ K C_Ratio) :=
  (pss_cons (ps_set (i := 2) sc_Ratio___mul__.nd rfl (by first | exact Or.inl rfl | exact Or.inr rfl) (pe_cal c_as_ratio (hr.mono (by decide)) rfl pass0 (pa_cons (pv 1) pa_nil)))
    (pss_cons (ps_if (pt_cmpR op_isN (pv 2) pe_non (nomark _)) (pss_one ps_never) pss_nil)
    (pss_one (ps_ret (pe_calm cm2_Ratio (hr.mono (by decide)) (by rfl) pass0 (pa_cons (pe_op op_mulW (pe_fld (pv 0) rfl) (pe_fld (pv 2) rfl)) (pa_cons (pe_op op_mulW (pe_fld (pv 0) rfl) (pe_fld (pv 2) rfl)) pa_nil)))))))
theorem ok_Ratio___mul__ {P : Program} {w : World} {K : PySem.W.Frag} {mg : Str → Option Value} {base : Heap} {C_Ratio : Addr} {f : Addr} {fd : FuncData} (F : FunD K "__mul__" "Ratio.__mul__" (defArgs s_Ratio___mul__) (defBody s_Ratio___mul__) (defScope s_Ratio___mul__) [] [] f fd) (c_as_ratio : Cal P w K mg base CX0 4 "as_ratio" ["value"] (spAsR K C_Ratio)) (cm2_Ratio : CalM P w K mg base CX0 2 "Ratio" C_Ratio ["self", "numerator", "denominator"] (spRInit K C_Ratio) []) : FnOk P w K mg base CX0 5 f fd ["self", "other"] (spMul K C_Ratio) :=
  F.ok sc_Ratio___mul__ (fun vs H Q E h => by first | (obtain ⟨_, rfl, _⟩ := h; rfl) | (obtain ⟨_, _, rfl, _⟩ := h; rfl) | (obtain ⟨_, _, _, rfl, _⟩ := h; rfl) | (obtain ⟨_, _, _, _, rfl, _⟩ := h; rfl) | (obtain ⟨_, _, _, _, _, rfl, _⟩ := h; rfl) | (obtain ⟨_, _, _, _, _, _, rfl, _⟩ := h; rfl) | (obtain ⟨_, _, _, _, _, _, _, rfl, _⟩ := h; rfl) | (obtain ⟨_, _, _, _, _, _, _, _, rfl, _⟩ := h; rfl) | (obtain ⟨_, _, _, _, _, _, _, _, _, rfl, _⟩ := h; rfl) | (obtain ⟨_, _, _, _, _, _, _, _, _, _, rfl, _⟩ := h; rfl) | (obtain ⟨_, _, _, _, _, _, _, _, _, _, _, rfl, _⟩ := h; rfl) | (obtain ⟨_, _, _, _, _, _, _, _, _, _, _, _, rfl, _⟩ := h; rfl) | (obtain ⟨_, _, _, _, _, _, _, _, _, _, _, _, _, rfl, _⟩ := h; rfl) | (obtain ⟨_, _, _, _, _, _, _, _, _, _, _, _, _, _, rfl, _⟩ := h; rfl) | (obtain ⟨_, _, _, _, _, _, _, _, _, _, _, _, _, _, _, rfl, _⟩ := h; rfl) | (obtain ⟨_, _, _, _, _, _, _, _, _, _, _, _, _, _, _, _, rfl, _⟩ := h; rfl) | (obtain ⟨_, _, _, _, _, _, _, _, _, _, _, _, _, _, _, _, _, rfl, _⟩ := h; rfl) | (obtain ⟨_, _, _, _, _, _, _, _, _, _, _, _, _, _, _, _, _, _, rfl, _⟩ := h; rfl) | (obtain ⟨_, _, _, _, _, _, _, _, _, _, _, _, _, _, _, _, _, _, _, rfl, _⟩ := h; rfl) | (obtain ⟨_, _, _, _, _, _, _, _, _, _, _, _, _, _, _, _, _, _, _, _, rfl, _⟩ := h; rfl) | (obtain ⟨_, _, _, _, _, _, _, _, _, _, _, _, _, _, _, _, _, _, _, _, _, rfl, _⟩ := h; rfl) | (obtain ⟨_, _, _, _, _, _, _, _, _, _, _, _, _, _, _, _, _, _, _, _, _, _, rfl, _⟩ := h; rfl) | (obtain ⟨_, _, _, _, _, _, _, _, _, _, _, _, _, _, _, _, _, _, _, _, _, _, _, rfl, _⟩ := h; rfl) | (obtain ⟨_, _, _, _, _, _, _, _, _, _, _, _, _, _, _, _, _, _, _, _, _, _, _, _, rfl, _⟩ := h; rfl) | (obtain ⟨_, _, _, _, _, _, _, _, _, _, _, _, _, _, _, _, _, _, _, _, _, _, _, _, _, rfl, _⟩ := h; rfl)) (fun cdv A outer s H vs Q E hr h => ⟨_, d_Ratio___mul__ c_as_ratio cm2_Ratio hr, p_mul h⟩)
theorem sc_Ratio___rmul__ : FnScope ["self", "other"] ["self", "other"] (defScope s_Ratio___rmul__) := ⟨rfl, rfl, rfl, by decide +kernel, rfl, by decide +kernel, by decide +kernel⟩
theorem d_Ratio___rmul__ {P : Program} {w : World} {K : PySem.W.Frag} {mg : Str → Option Value} {base : Heap} {C_Ratio : Addr} {CX : CXT} {f : Addr} {cdv : Value} {A : Around} {outer : List Env} {s : Shared} {H : Hp} {E : XK} (co_mul : CalO P w K mg base CX0 5 C_Ratio "__mul__" (spMul K C_Ratio)) (oc_R : OpC K C_Ratio) (on_mul : OpN K C_Ratio "mul")
    (hr : Room 5 (A.deeper (envOfC "Ratio.__rmul__" (defScope s_Ratio___rmul__) s.heap.objs.size f cdv))) :
    PSs (cxOf CX P w K mg base ["self", "other"] "Ratio.__rmul__" (defScope s_Ratio___rmul__) f cdv A outer s H E) (defBody s_Ratio___rmul__) (t_Ratio___rmul__ K C_Ratio) :=
  (pss_one (ps_ret (pe_op (op_ownMul co_mul oc_R on_mul (hr.mono (by decide)) pass0) (pv 0) (pv 1))))
theorem ok_Ratio___rmul__ {P : Program} {w : World} {K : PySem.W.Frag} {mg : Str → Option Value} {base : Heap} {C_Ratio : Addr} {f : Addr} {fd : FuncData} (F : FunD K "__rmul__" "Ratio.__rmul__" (defArgs s_Ratio___rmul__) (defBody s_Ratio___rmul__) (defScope s_Ratio___rmul__) [] [] f fd) (co_mul : CalO P w K mg base CX0 5 C_Ratio "__mul__" (spMul K C_Ratio)) (oc_R : OpC K C_Ratio) (on_mul : OpN K C_Ratio "mul") : FnOk P w K mg base CX0 6 f fd ["self", "other"] (spRmul K C_Ratio) :=
  F.ok sc_Ratio___rmul__ (fun vs H Q E h => by first | (obtain ⟨_, rfl, _⟩ := h; rfl) | (obtain ⟨_, _, rfl, _⟩ := h; rfl) | (obtain ⟨_, _, _, rfl, _⟩ := h; rfl) | (obtain ⟨_, _, _, _, rfl, _⟩ := h; rfl) | (obtain ⟨_, _, _, _, _, rfl, _⟩ := h; rfl) | (obtain ⟨_, _, _, _, _, _, rfl, _⟩ := h; rfl) | (obtain ⟨_, _, _, _, _, _, _, rfl, _⟩ := h; rfl) | (obtain ⟨_, _, _, _, _, _, _, _, rfl, _⟩ := h; rfl) | (obtain ⟨_, _, _, _, _, _, _, _, _, rfl, _⟩ := h; rfl) | (obtain ⟨_, _, _, _, _, _, _, _, _, _, rfl, _⟩ := h; rfl) | (obtain ⟨_, _, _, _, _, _, _, _, _, _, _, rfl, _⟩ := h; rfl) | (obtain ⟨_, _, _, _, _, _, _, _, _, _, _, _, rfl, _⟩ := h; rfl) | (obtain ⟨_, _, _, _, _, _, _, _, _, _, _, _, _, rfl, _⟩ := h; rfl) | (obtain ⟨_, _, _, _, _, _, _, _, _, _, _, _, _, _, rfl, _⟩ := h; rfl) | (obtain ⟨_, _, _, _, _, _, _, _, _, _, _, _, _, _, _, rfl, _⟩ := h; rfl) | (obtain ⟨_, _, _, _, _, _, _, _, _, _, _, _, _, _, _, _, rfl, _⟩ := h; rfl) | (obtain ⟨_, _, _, _, _, _, _, _, _, _, _, _, _, _, _, _, _, rfl, _⟩ := h; rfl) | (obtain ⟨_, _, _, _, _, _, _, _, _, _, _, _, _, _, _, _, _, _, rfl, _⟩ := h; rfl) | (obtain ⟨_, _, _, _, _, _, _, _, _, _, _, _, _, _, _, _, _, _, _, rfl, _⟩ := h; rfl) | (obtain ⟨_, _, _, _, _, _, _, _, _, _, _, _, _, _, _, _, _, _, _, _, rfl, _⟩ := h; rfl) | (obtain ⟨_, _, _, _, _, _, _, _, _, _, _, _, _, _, _, _, _, _, _, _, _, rfl, _⟩ := h; rfl) | (obtain ⟨_, _, _, _, _, _, _, _, _, _, _, _, _, _, _, _, _, _, _, _, _, _, rfl, _⟩ := h; rfl) | (obtain ⟨_, _, _, _, _, _, _, _, _, _, _, _, _, _, _, _, _, _, _, _, _, _, _, rfl, _⟩ := h; rfl) | (obtain ⟨_, _, _, _, _, _, _, _, _, _, _, _, _, _, _, _, _, _, _, _, _, _, _, _, rfl, _⟩ := h; rfl) | (obtain ⟨_, _, _, _, _, _, _, _, _, _, _, _, _, _, _, _, _, _, _, _, _, _, _, _, _, rfl, _⟩ := h; rfl)) (fun cdv A outer s H vs Q E hr h => ⟨_, d_Ratio___rmul__ co_mul oc_R on_mul hr, p_rmulI h⟩)
theorem sc_Ratio___repr__ : FnScope ["self"] ["self"] (defScope s_Ratio___repr__) := ⟨rfl, rfl, rfl, by decide +kernel, rfl, by decide +kernel, by decide +kernel⟩
theorem d_Ratio___repr__ {P : Program} {w : World} {K : PySem.W.Frag} {mg : Str → Option Value} {base : Heap} {C_Ratio : Addr} {f : Addr} {cdv : Value} {A : Around} {outer : List Env} {s : Shared} {H : Hp} {E : XK}  :
    PSs (cxC P w K mg base ["self"] "Ratio.__repr__" (defScope s_Ratio___repr__) f cdv A outer s H E) (defBody s_Ratio___repr__) (t_Ratio___repr__ K C_Ratio) :=
  (pss_one (ps_ret (pe_join (PJ.cons pe_str (PJ.cons (pe_fmt (pe_fld (pv 0) rfl)) (PJ.cons pe_str (PJ.cons (pe_fmt (pe_fld (pv 0) rfl)) (PJ.cons pe_str PJ.nil))))))))
theorem ok_Ratio___repr__ {P : Program} {w : World} {K : PySem.W.Frag} {mg : Str → Option Value} {base : Heap} {C_Ratio : Addr} {f : Addr} {fd : FuncData} (F : FunD K "__repr__" "Ratio.__repr__" (defArgs s_Ratio___repr__) (defBody s_Ratio___repr__) (defScope s_Ratio___repr__) [] [] f fd)  : FnC P w K mg base 1 f fd ["self"] (spRRepr K C_Ratio) :=
  Rv.FunD.okC F sc_Ratio___repr__ (fun vs H Q E h => by first | (obtain ⟨_, rfl, _⟩ := h; rfl) | (obtain ⟨_, _, rfl, _⟩ := h; rfl) | (obtain ⟨_, _, _, rfl, _⟩ := h; rfl) | (obtain ⟨_, _, _, _, rfl, _⟩ := h; rfl) | (obtain ⟨_, _, _, _, _, rfl, _⟩ := h; rfl) | (obtain ⟨_, _, _, _, _, _, rfl, _⟩ := h; rfl) | (obtain ⟨_, _, _, _, _, _, _, rfl, _⟩ := h; rfl) | (obtain ⟨_, _, _, _, _, _, _, _, rfl, _⟩ := h; rfl) | (obtain ⟨_, _, _, _, _, _, _, _, _, rfl, _⟩ := h; rfl) | (obtain ⟨_, _, _, _, _, _, _, _, _, _, rfl, _⟩ := h; rfl) | (obtain ⟨_, _, _, _, _, _, _, _, _, _, _, rfl, _⟩ := h; rfl) | (obtain ⟨_, _, _, _, _, _, _, _, _, _, _, _, rfl, _⟩ := h; rfl) | (obtain ⟨_, _, _, _, _, _, _, _, _, _, _, _, _, rfl, _⟩ := h; rfl) | (obtain ⟨_, _, _, _, _, _, _, _, _, _, _, _, _, _, rfl, _⟩ := h; rfl) | (obtain ⟨_, _, _, _, _, _, _, _, _, _, _, _, _, _, _, rfl, _⟩ := h; rfl) | (obtain ⟨_, _, _, _, _, _, _, _, _, _, _, _, _, _, _, _, rfl, _⟩ := h; rfl) | (obtain ⟨_, _, _, _, _, _, _, _, _, _, _, _, _, _, _, _, _, rfl, _⟩ := h; rfl) | (obtain ⟨_, _, _, _, _, _, _, _, _, _, _, _, _, _, _, _, _, _, rfl, _⟩ := h; rfl) | (obtain ⟨_, _, _, _, _, _, _, _, _, _, _, _, _, _, _, _, _, _, _, rfl, _⟩ := h; rfl) | (obtain ⟨_, _, _, _, _, _, _, _, _, _, _, _, _, _, _, _, _, _, _, _, rfl, _⟩ := h; rfl) | (obtain ⟨_, _, _, _, _, _, _, _, _, _, _, _, _, _, _, _, _, _, _, _, _, rfl, _⟩ := h; rfl) | (obtain ⟨_, _, _, _, _, _, _, _, _, _, _, _, _, _, _, _, _, _, _, _, _, _, rfl, _⟩ := h; rfl) | (obtain ⟨_, _, _, _, _, _, _, _, _, _, _, _, _, _, _, _, _, _, _, _, _, _, _, rfl, _⟩ := h; rfl) | (obtain ⟨_, _, _, _, _, _, _, _, _, _, _, _, _, _, _, _, _, _, _, _, _, _, _, _, rfl, _⟩ := h; rfl) | (obtain ⟨_, _, _, _, _, _, _, _, _, _, _, _, _, _, _, _, _, _, _, _, _, _, _, _, _, rfl, _⟩ := h; rfl)) (fun cdv A outer s H vs Q E h => ⟨_, d_Ratio___repr__ , p_rrepr h⟩)
theorem sc__law_pool : FnScope ["_law_script", "_law_k", "_law_cell", "_law_number", "_law_mixed"] ["_law_script", "_law_k"] (defScope s__law_pool) := ⟨rfl, rfl, rfl, by decide +kernel, rfl, by decide +kernel, by decide +kernel⟩
theorem d__law_pool {P : Program} {w : World} {K : PySem.W.Frag} {mg : Str → Option Value} {base : Heap} {CX : CXT} {f : Addr} {cdv : Value} {A : Around} {outer : List Env} {s : Shared} {H : Hp} {E : XK} (m_int : mg "int" = none)
    (hr : Room 0 (A.deeper (envOfC "_law_pool" (defScope s__law_pool) s.heap.objs.size f cdv))) :
    PSs (cxOf CX P w K mg base ["_law_script", "_law_k", "_law_cell", "_law_number", "_law_mixed"] "_law_pool" (defScope s__law_pool) f cdv A outer s H E) (defBody s__law_pool) (RvM.t__law_pool K) :=
  (pss_cons (ps_set (i := 2) sc__law_pool.nd rfl (by first | exact Or.inl rfl | exact Or.inr rfl) (pe_ix ix_list (pe_op op_cat (pe_slice sl_list (pv 0) (po_some (pv 1)) (po_some (pe_op op_add (pv 1) pe_int))) (pe_lst (pa_cons pe_int pa_nil))) pe_int (fun _ _ => rfl)))
    (pss_cons (ps_set (i := 3) sc__law_pool.nd rfl (by first | exact Or.inl rfl | exact Or.inr rfl) (pe_ifExp (pt_cmpR op_ge (pv 2) pe_int (nomark _)) (pv 2) (pe_op op_sub (pe_un un_neg pe_int) (pv 2))))
    (pss_cons (ps_set (i := 4) sc__law_pool.nd rfl (by first | exact Or.inl rfl | exact Or.inr rfl) (pe_op op_mod (pe_op op_mul (pe_op op_add (pe_op op_add (pe_op op_add (pe_op op_mod (pv 3) pe_int) (pe_op op_mul (pe_op op_mul pe_int (pv 1)) (pv 1))) (pe_op op_mul pe_int (pv 1))) pe_int) pe_int) pe_int))
    (pss_one (ps_ret (pe_lst (pa_cons (pe_op op_mul (pv 3) (pe_callTy call_int1 (by rfl) m_int (by decide +kernel) (pa_cons (pe_cmpR op_ge (pv 3) (pe_op op_pow pe_int pe_int) (nomark _)) pa_nil))) (pa_cons (pe_op op_mod (pe_op op_mul (pv 4) (pv 4)) pe_int) pa_nil))))))))
theorem ok__law_pool {P : Program} {w : World} {K : PySem.W.Frag} {mg : Str → Option Value} {base : Heap} {f : Addr} {fd : FuncData} (F : FunD K "_law_pool" "_law_pool" (defArgs s__law_pool) (defBody s__law_pool) (defScope s__law_pool) [] [] f fd) (m_int : mg "int" = none) : FnOk P w K mg base CX0 1 f fd ["_law_script", "_law_k"] (RvM.spPool K) :=
  F.ok sc__law_pool (fun vs H Q E h => by first | (obtain ⟨_, rfl, _⟩ := h; rfl) | (obtain ⟨_, _, rfl, _⟩ := h; rfl) | (obtain ⟨_, _, _, rfl, _⟩ := h; rfl) | (obtain ⟨_, _, _, _, rfl, _⟩ := h; rfl) | (obtain ⟨_, _, _, _, _, rfl, _⟩ := h; rfl) | (obtain ⟨_, _, _, _, _, _, rfl, _⟩ := h; rfl) | (obtain ⟨_, _, _, _, _, _, _, rfl, _⟩ := h; rfl) | (obtain ⟨_, _, _, _, _, _, _, _, rfl, _⟩ := h; rfl) | (obtain ⟨_, _, _, _, _, _, _, _, _, rfl, _⟩ := h; rfl) | (obtain ⟨_, _, _, _, _, _, _, _, _, _, rfl, _⟩ := h; rfl) | (obtain ⟨_, _, _, _, _, _, _, _, _, _, _, rfl, _⟩ := h; rfl) | (obtain ⟨_, _, _, _, _, _, _, _, _, _, _, _, rfl, _⟩ := h; rfl) | (obtain ⟨_, _, _, _, _, _, _, _, _, _, _, _, _, rfl, _⟩ := h; rfl) | (obtain ⟨_, _, _, _, _, _, _, _, _, _, _, _, _, _, rfl, _⟩ := h; rfl) | (obtain ⟨_, _, _, _, _, _, _, _, _, _, _, _, _, _, _, rfl, _⟩ := h; rfl) | (obtain ⟨_, _, _, _, _, _, _, _, _, _, _, _, _, _, _, _, rfl, _⟩ := h; rfl) | (obtain ⟨_, _, _, _, _, _, _, _, _, _, _, _, _, _, _, _, _, rfl, _⟩ := h; rfl) | (obtain ⟨_, _, _, _, _, _, _, _, _, _, _, _, _, _, _, _, _, _, rfl, _⟩ := h; rfl) | (obtain ⟨_, _, _, _, _, _, _, _, _, _, _, _, _, _, _, _, _, _, _, rfl, _⟩ := h; rfl) | (obtain ⟨_, _, _, _, _, _, _, _, _, _, _, _, _, _, _, _, _, _, _, _, rfl, _⟩ := h; rfl) | (obtain ⟨_, _, _, _, _, _, _, _, _, _, _, _, _, _, _, _, _, _, _, _, _, rfl, _⟩ := h; rfl) | (obtain ⟨_, _, _, _, _, _, _, _, _, _, _, _, _, _, _, _, _, _, _, _, _, _, rfl, _⟩ := h; rfl) | (obtain ⟨_, _, _, _, _, _, _, _, _, _, _, _, _, _, _, _, _, _, _, _, _, _, _, rfl, _⟩ := h; rfl) | (obtain ⟨_, _, _, _, _, _, _, _, _, _, _, _, _, _, _, _, _, _, _, _, _, _, _, _, rfl, _⟩ := h; rfl) | (obtain ⟨_, _, _, _, _, _, _, _, _, _, _, _, _, _, _, _, _, _, _, _, _, _, _, _, _, rfl, _⟩ := h; rfl)) (fun cdv A outer s H vs Q E hr h => ⟨_, d__law_pool m_int hr, RvM.p_pool h⟩)
theorem sc__law_take : FnScope ["_law_pool_here", "_law_many", "_law_digit"] ["_law_pool_here", "_law_many"] (defScope s__law_take) := ⟨rfl, rfl, rfl, by decide +kernel, rfl, by decide +kernel, by decide +kernel⟩
theorem d__law_take {P : Program} {w : World} {K : PySem.W.Frag} {mg : Str → Option Value} {base : Heap} {CX : CXT} {f : Addr} {cdv : Value} {A : Around} {outer : List Env} {s : Shared} {H : Hp} {E : XK} 
    (hr : Room 0 (A.deeper (envOfC "_law_take" (defScope s__law_take) s.heap.objs.size f cdv))) :
    PSs (cxOf CX P w K mg base ["_law_pool_here", "_law_many", "_law_digit"] "_law_take" (defScope s__law_take) f cdv A outer s H E) (defBody s__law_take) (RvM.t__law_take K) :=
  (pss_cons (ps_if (pt_cmpR op_gt (pe_ix ix_list (pv 0) pe_int (fun _ _ => rfl)) pe_int (nomark _)) (pss_cons (ps_set (i := 2) sc__law_take.nd rfl (by first | exact Or.inl rfl | exact Or.inr rfl) (pe_op op_mod (pe_ix ix_list (pv 0) pe_int (fun _ _ => rfl)) (pv 1)))
    (pss_cons (ps_asg (pe_op op_fdivW (pe_ix ix_list (pv 0) pe_int (fun _ _ => rfl)) (pv 1)) (pg_sub (pv 0) pe_int set_list))
    (pss_one (ps_ret (pv 2))))) pss_nil)
    (pss_cons (ps_asg (pe_op op_mod (pe_op op_add (pe_op op_mul (pe_ix ix_list (pv 0) pe_int (fun _ _ => rfl)) pe_int) pe_int) pe_int) (pg_sub (pv 0) pe_int set_list))
    (pss_one (ps_ret (pe_op op_mod (pe_op op_fdivW (pe_op op_mod (pe_op op_mul (pe_ix ix_list (pv 0) pe_int (fun _ _ => rfl)) (pe_ix ix_list (pv 0) pe_int (fun _ _ => rfl))) pe_int) pe_int) (pv 1))))))
theorem ok__law_take {P : Program} {w : World} {K : PySem.W.Frag} {mg : Str → Option Value} {base : Heap} {f : Addr} {fd : FuncData} (F : FunD K "_law_take" "_law_take" (defArgs s__law_take) (defBody s__law_take) (defScope s__law_take) [] [] f fd)  : FnOk P w K mg base CX0 1 f fd ["_law_pool_here", "_law_many"] (RvM.spTake K) :=
  F.ok sc__law_take (fun vs H Q E h => by first | (obtain ⟨_, rfl, _⟩ := h; rfl) | (obtain ⟨_, _, rfl, _⟩ := h; rfl) | (obtain ⟨_, _, _, rfl, _⟩ := h; rfl) | (obtain ⟨_, _, _, _, rfl, _⟩ := h; rfl) | (obtain ⟨_, _, _, _, _, rfl, _⟩ := h; rfl) | (obtain ⟨_, _, _, _, _, _, rfl, _⟩ := h; rfl) | (obtain ⟨_, _, _, _, _, _, _, rfl, _⟩ := h; rfl) | (obtain ⟨_, _, _, _, _, _, _, _, rfl, _⟩ := h; rfl) | (obtain ⟨_, _, _, _, _, _, _, _, _, rfl, _⟩ := h; rfl) | (obtain ⟨_, _, _, _, _, _, _, _, _, _, rfl, _⟩ := h; rfl) | (obtain ⟨_, _, _, _, _, _, _, _, _, _, _, rfl, _⟩ := h; rfl) | (obtain ⟨_, _, _, _, _, _, _, _, _, _, _, _, rfl, _⟩ := h; rfl) | (obtain ⟨_, _, _, _, _, _, _, _, _, _, _, _, _, rfl, _⟩ := h; rfl) | (obtain ⟨_, _, _, _, _, _, _, _, _, _, _, _, _, _, rfl, _⟩ := h; rfl) | (obtain ⟨_, _, _, _, _, _, _, _, _, _, _, _, _, _, _, rfl, _⟩ := h; rfl) | (obtain ⟨_, _, _, _, _, _, _, _, _, _, _, _, _, _, _, _, rfl, _⟩ := h; rfl) | (obtain ⟨_, _, _, _, _, _, _, _, _, _, _, _, _, _, _, _, _, rfl, _⟩ := h; rfl) | (obtain ⟨_, _, _, _, _, _, _, _, _, _, _, _, _, _, _, _, _, _, rfl, _⟩ := h; rfl) | (obtain ⟨_, _, _, _, _, _, _, _, _, _, _, _, _, _, _, _, _, _, _, rfl, _⟩ := h; rfl) | (obtain ⟨_, _, _, _, _, _, _, _, _, _, _, _, _, _, _, _, _, _, _, _, rfl, _⟩ := h; rfl) | (obtain ⟨_, _, _, _, _, _, _, _, _, _, _, _, _, _, _, _, _, _, _, _, _, rfl, _⟩ := h; rfl) | (obtain ⟨_, _, _, _, _, _, _, _, _, _, _, _, _, _, _, _, _, _, _, _, _, _, rfl, _⟩ := h; rfl) | (obtain ⟨_, _, _, _, _, _, _, _, _, _, _, _, _, _, _, _, _, _, _, _, _, _, _, rfl, _⟩ := h; rfl) | (obtain ⟨_, _, _, _, _, _, _, _, _, _, _, _, _, _, _, _, _, _, _, _, _, _, _, _, rfl, _⟩ := h; rfl) | (obtain ⟨_, _, _, _, _, _, _, _, _, _, _, _, _, _, _, _, _, _, _, _, _, _, _, _, _, rfl, _⟩ := h; rfl)) (fun cdv A outer s H vs Q E hr h => ⟨_, d__law_take  hr, RvM.p_take h⟩)
theorem sc__law_whole : FnScope ["_law_pool_here", "_law_size"] ["_law_pool_here"] (defScope s__law_whole) := ⟨rfl, rfl, rfl, by decide +kernel, rfl, by decide +kernel, by decide +kernel⟩
theorem d__law_whole {P : Program} {w : World} {K : PySem.W.Frag} {mg : Str → Option Value} {base : Heap} {CX : CXT} {f : Addr} {cdv : Value} {A : Around} {outer : List Env} {s : Shared} {H : Hp} {E : XK} (c__law_take : Cal P w K mg base CX0 1 "_law_take" ["_law_pool_here", "_law_many"] (RvM.spTake K))
    (hr : Room 1 (A.deeper (envOfC "_law_whole" (defScope s__law_whole) s.heap.objs.size f cdv))) :
    PSs (cxOf CX P w K mg base ["_law_pool_here", "_law_size"] "_law_whole" (defScope s__law_whole) f cdv A outer s H E) (defBody s__law_whole) (t__law_whole02 K) :=
  (pss_cons (ps_set (i := 1) sc__law_whole.nd rfl (by first | exact Or.inl rfl | exact Or.inr rfl) (pe_ix ix_list (pe_lst (pa_cons pe_int (pa_cons pe_int (pa_cons (pe_op op_pow pe_int pe_int) pa_nil)))) (pe_cal c__law_take (hr.mono (by decide)) rfl pass0 (pa_cons (pv 0) (pa_cons pe_int pa_nil))) (fun _ _ => rfl)))
    (pss_one (ps_ret (pe_op op_mul (pe_cal c__law_take (hr.mono (by decide)) rfl pass0 (pa_cons (pv 0) (pa_cons (pv 1) pa_nil))) (pe_ix ix_list (pe_lst (pa_cons pe_int (pa_cons (pe_un un_neg pe_int) pa_nil))) (pe_cal c__law_take (hr.mono (by decide)) rfl pass0 (pa_cons (pv 0) (pa_cons pe_int pa_nil))) (fun _ _ => rfl))))))
theorem ok__law_whole {P : Program} {w : World} {K : PySem.W.Frag} {mg : Str → Option Value} {base : Heap} {f : Addr} {fd : FuncData} (F : FunD K "_law_whole" "_law_whole" (defArgs s__law_whole) (defBody s__law_whole) (defScope s__law_whole) [] [] f fd) (c__law_take : Cal P w K mg base CX0 1 "_law_take" ["_law_pool_here", "_law_many"] (RvM.spTake K)) : FnOk P w K mg base CX0 2 f fd ["_law_pool_here"] (spLWhole02 K) :=
  F.ok sc__law_whole (fun vs H Q E h => by first | (obtain ⟨_, rfl, _⟩ := h; rfl) | (obtain ⟨_, _, rfl, _⟩ := h; rfl) | (obtain ⟨_, _, _, rfl, _⟩ := h; rfl) | (obtain ⟨_, _, _, _, rfl, _⟩ := h; rfl) | (obtain ⟨_, _, _, _, _, rfl, _⟩ := h; rfl) | (obtain ⟨_, _, _, _, _, _, rfl, _⟩ := h; rfl) | (obtain ⟨_, _, _, _, _, _, _, rfl, _⟩ := h; rfl) | (obtain ⟨_, _, _, _, _, _, _, _, rfl, _⟩ := h; rfl) | (obtain ⟨_, _, _, _, _, _, _, _, _, rfl, _⟩ := h; rfl) | (obtain ⟨_, _, _, _, _, _, _, _, _, _, rfl, _⟩ := h; rfl) | (obtain ⟨_, _, _, _, _, _, _, _, _, _, _, rfl, _⟩ := h; rfl) | (obtain ⟨_, _, _, _, _, _, _, _, _, _, _, _, rfl, _⟩ := h; rfl) | (obtain ⟨_, _, _, _, _, _, _, _, _, _, _, _, _, rfl, _⟩ := h; rfl) | (obtain ⟨_, _, _, _, _, _, _, _, _, _, _, _, _, _, rfl, _⟩ := h; rfl) | (obtain ⟨_, _, _, _, _, _, _, _, _, _, _, _, _, _, _, rfl, _⟩ := h; rfl) | (obtain ⟨_, _, _, _, _, _, _, _, _, _, _, _, _, _, _, _, rfl, _⟩ := h; rfl) | (obtain ⟨_, _, _, _, _, _, _, _, _, _, _, _, _, _, _, _, _, rfl, _⟩ := h; rfl) | (obtain ⟨_, _, _, _, _, _, _, _, _, _, _, _, _, _, _, _, _, _, rfl, _⟩ := h; rfl) | (obtain ⟨_, _, _, _, _, _, _, _, _, _, _, _, _, _, _, _, _, _, _, rfl, _⟩ := h; rfl) | (obtain ⟨_, _, _, _, _, _, _, _, _, _, _, _, _, _, _, _, _, _, _, _, rfl, _⟩ := h; rfl) | (obtain ⟨_, _, _, _, _, _, _, _, _, _, _, _, _, _, _, _, _, _, _, _, _, rfl, _⟩ := h; rfl) | (obtain ⟨_, _, _, _, _, _, _, _, _, _, _, _, _, _, _, _, _, _, _, _, _, _, rfl, _⟩ := h; rfl) | (obtain ⟨_, _, _, _, _, _, _, _, _, _, _, _, _, _, _, _, _, _, _, _, _, _, _, rfl, _⟩ := h; rfl) | (obtain ⟨_, _, _, _, _, _, _, _, _, _, _, _, _, _, _, _, _, _, _, _, _, _, _, _, rfl, _⟩ := h; rfl) | (obtain ⟨_, _, _, _, _, _, _, _, _, _, _, _, _, _, _, _, _, _, _, _, _, _, _, _, _, rfl, _⟩ := h; rfl)) (fun cdv A outer s H vs Q E hr h => ⟨_, d__law_whole c__law_take hr, p_lwhole02 h⟩)
theorem sc__law_is : FnScope ["_law_ratio", "_law_top", "_law_bottom"] ["_law_ratio", "_law_top", "_law_bottom"] (defScope s__law_is) := ⟨rfl, rfl, rfl, by decide +kernel, rfl, by decide +kernel, by decide +kernel⟩
theorem d__law_is {P : Program} {w : World} {K : PySem.W.Frag} {mg : Str → Option Value} {base : Heap} {C_Ratio : Addr} {CX : CXT} {f : Addr} {cdv : Value} {A : Around} {outer : List Env} {s : Shared} {H : Hp} {E : XK} (g_Ratio : mg "Ratio" = some (.ref C_Ratio)) (m_isinstance : mg "isinstance" = none) (cp_top : CalP P w K mg base CX0 1 C_Ratio "top" (getSp C_Ratio "reduced_top")) (cp_bottom : CalP P w K mg base CX0 1 C_Ratio "bottom" (getSp C_Ratio "reduced_bottom"))
    (hr : Room 2 (A.deeper (envOfC "_law_is" (defScope s__law_is) s.heap.objs.size f cdv))) :
    PSs (cxOf CX P w K mg base ["_law_ratio", "_law_top", "_law_bottom"] "_law_is" (defScope s__law_is) f cdv A outer s H E) (defBody s__law_is) (t__law_is02 K C_Ratio) :=
  (pss_one (ps_ret (pe_and (pe_callB call_isi (by rfl) m_isinstance (by decide +kernel) (pa_cons (pv 0) (pa_cons (pe_glob rfl g_Ratio rfl) pa_nil))) (pe_and (pe_cmpR op_eq (pe_op op_mulW (pe_calp cp_top (hr.mono (by decide)) pass0 (pv 0) rfl) (pv 2)) (pe_op op_mulW (pv 1) (pe_calp cp_bottom (hr.mono (by decide)) pass0 (pv 0) rfl)) (nomark _)) (pe_one (pe_cmpR op_gt (pe_calp cp_bottom (hr.mono (by decide)) pass0 (pv 0) rfl) pe_int (nomark _)))))))
theorem ok__law_is {P : Program} {w : World} {K : PySem.W.Frag} {mg : Str → Option Value} {base : Heap} {C_Ratio : Addr} {f : Addr} {fd : FuncData} (F : FunD K "_law_is" "_law_is" (defArgs s__law_is) (defBody s__law_is) (defScope s__law_is) [] [] f fd) (g_Ratio : mg "Ratio" = some (.ref C_Ratio)) (m_isinstance : mg "isinstance" = none) (cp_top : CalP P w K mg base CX0 1 C_Ratio "top" (getSp C_Ratio "reduced_top")) (cp_bottom : CalP P w K mg base CX0 1 C_Ratio "bottom" (getSp C_Ratio "reduced_bottom")) : FnOk P w K mg base CX0 3 f fd ["_law_ratio", "_law_top", "_law_bottom"] (spIs02 K C_Ratio) :=
  F.ok sc__law_is (fun vs H Q E h => by first | (obtain ⟨_, rfl, _⟩ := h; rfl) | (obtain ⟨_, _, rfl, _⟩ := h; rfl) | (obtain ⟨_, _, _, rfl, _⟩ := h; rfl) | (obtain ⟨_, _, _, _, rfl, _⟩ := h; rfl) | (obtain ⟨_, _, _, _, _, rfl, _⟩ := h; rfl) | (obtain ⟨_, _, _, _, _, _, rfl, _⟩ := h; rfl) | (obtain ⟨_, _, _, _, _, _, _, rfl, _⟩ := h; rfl) | (obtain ⟨_, _, _, _, _, _, _, _, rfl, _⟩ := h; rfl) | (obtain ⟨_, _, _, _, _, _, _, _, _, rfl, _⟩ := h; rfl) | (obtain ⟨_, _, _, _, _, _, _, _, _, _, rfl, _⟩ := h; rfl) | (obtain ⟨_, _, _, _, _, _, _, _, _, _, _, rfl, _⟩ := h; rfl) | (obtain ⟨_, _, _, _, _, _, _, _, _, _, _, _, rfl, _⟩ := h; rfl) | (obtain ⟨_, _, _, _, _, _, _, _, _, _, _, _, _, rfl, _⟩ := h; rfl) | (obtain ⟨_, _, _, _, _, _, _, _, _, _, _, _, _, _, rfl, _⟩ := h; rfl) | (obtain ⟨_, _, _, _, _, _, _, _, _, _, _, _, _, _, _, rfl, _⟩ := h; rfl) | (obtain ⟨_, _, _, _, _, _, _, _, _, _, _, _, _, _, _, _, rfl, _⟩ := h; rfl) | (obtain ⟨_, _, _, _, _, _, _, _, _, _, _, _, _, _, _, _, _, rfl, _⟩ := h; rfl) | (obtain ⟨_, _, _, _, _, _, _, _, _, _, _, _, _, _, _, _, _, _, rfl, _⟩ := h; rfl) | (obtain ⟨_, _, _, _, _, _, _, _, _, _, _, _, _, _, _, _, _, _, _, rfl, _⟩ := h; rfl) | (obtain ⟨_, _, _, _, _, _, _, _, _, _, _, _, _, _, _, _, _, _, _, _, rfl, _⟩ := h; rfl) | (obtain ⟨_, _, _, _, _, _, _, _, _, _, _, _, _, _, _, _, _, _, _, _, _, rfl, _⟩ := h; rfl) | (obtain ⟨_, _, _, _, _, _, _, _, _, _, _, _, _, _, _, _, _, _, _, _, _, _, rfl, _⟩ := h; rfl) | (obtain ⟨_, _, _, _, _, _, _, _, _, _, _, _, _, _, _, _, _, _, _, _, _, _, _, rfl, _⟩ := h; rfl) | (obtain ⟨_, _, _, _, _, _, _, _, _, _, _, _, _, _, _, _, _, _, _, _, _, _, _, _, rfl, _⟩ := h; rfl) | (obtain ⟨_, _, _, _, _, _, _, _, _, _, _, _, _, _, _, _, _, _, _, _, _, _, _, _, _, rfl, _⟩ := h; rfl)) (fun cdv A outer s H vs Q E hr h => ⟨_, d__law_is g_Ratio m_isinstance cp_top cp_bottom hr, p_is02 h⟩)
theorem sc__law_said : FnScope ["_law_one", "_law_two", "e"] ["_law_one", "_law_two"] (defScope s__law_said) := ⟨rfl, rfl, rfl, by decide +kernel, rfl, by decide +kernel, by decide +kernel⟩
theorem d__law_said {P : Program} {w : World} {K : PySem.W.Frag} {mg : Str → Option Value} {base : Heap} {C_Ratio : Addr} {C_InvalidNumber : Addr} {CX : CXT} {f : Addr} {cdv : Value} {A : Around} {outer : List Env} {s : Shared} {H : Hp} {E : XK} (ct_over : CalT P w K mg base (L2.CX P w) 6 C_Ratio "over" ["self", "other"] (spOverX K C_Ratio C_InvalidNumber)) (xf_InvalidNumber : XfC K C_InvalidNumber) (no_InvalidNumber_value : PySem.W.findIn K (.ref C_InvalidNumber) "value" = some none) (cuc_repr : CalUC P w K mg base 1 C_Ratio "__repr__" (spRRepr K C_Ratio)) (m_repr : mg "repr" = none) (g_InvalidNumber : mg "InvalidNumber" = some (.ref C_InvalidNumber)) (hgd : A.guards = some [])
    (hr : Room 6 (A.deeper (envOfC "_law_said" (defScope s__law_said) s.heap.objs.size f cdv))) :
    PSs (cxOf CX P w K mg base ["_law_one", "_law_two", "e"] "_law_said" (defScope s__law_said) f cdv A outer s H E) (defBody s__law_said) (t__law_said02 K C_Ratio C_InvalidNumber) :=
  (pss_cons (ps_try_as (tb := fun W => (tDrop (tMethD C_Ratio "over" (spOverX K C_Ratio C_InvalidNumber) [] (WE W) (tVar 0) (tCons (tVar 1) tNil)))) (ts := fun xa xcls xd => (tRet (tCB (cReprA K C_Ratio (spRRepr K C_Ratio)) (tCons (tXf xa xcls xd C_InvalidNumber "value" (tVar 2)) tNil)))) (Wout := fun _ _ _ _ => False) rfl rfl sc__law_said.nd (i := 2) rfl rfl ⟨by rfl, by decide, .inl g_InvalidNumber⟩ takesF (fun W pn xe tk hpo => (pss_one (ps_expr (pe_caltD ct_over (hr.mono (by decide)) (passAt tk) (pv 0) (pa_cons (pv 1) pa_nil))))) (fun xa oe xcls xd pn hz hfv => (pss_one (ps_ret (pe_callB (call_reprA cuc_repr hgd (roomH_any (hr.mono (by decide)))) (by rfl) m_repr (by decide +kernel) (pa_cons (pe_xf xf_InvalidNumber no_InvalidNumber_value hz hfv (pv 2)) pa_nil))))))
    (pss_one (ps_ret pe_str)))
theorem ok__law_said {P : Program} {w : World} {K : PySem.W.Frag} {mg : Str → Option Value} {base : Heap} {C_Ratio : Addr} {C_InvalidNumber : Addr} {f : Addr} {fd : FuncData} (F : FunD K "_law_said" "_law_said" (defArgs s__law_said) (defBody s__law_said) (defScope s__law_said) [] [] f fd) (ct_over : CalT P w K mg base (L2.CX P w) 6 C_Ratio "over" ["self", "other"] (spOverX K C_Ratio C_InvalidNumber)) (xf_InvalidNumber : XfC K C_InvalidNumber) (no_InvalidNumber_value : PySem.W.findIn K (.ref C_InvalidNumber) "value" = some none) (cuc_repr : CalUC P w K mg base 1 C_Ratio "__repr__" (spRRepr K C_Ratio)) (m_repr : mg "repr" = none) (g_InvalidNumber : mg "InvalidNumber" = some (.ref C_InvalidNumber)) : FnOkG P w K mg base CX0 7 f fd ["_law_one", "_law_two"] (spSaid02 K C_Ratio C_InvalidNumber) :=
  Rv.FunD.okG F sc__law_said (fun vs H Q E h => by first | (obtain ⟨_, rfl, _⟩ := h; rfl) | (obtain ⟨_, _, rfl, _⟩ := h; rfl) | (obtain ⟨_, _, _, rfl, _⟩ := h; rfl) | (obtain ⟨_, _, _, _, rfl, _⟩ := h; rfl) | (obtain ⟨_, _, _, _, _, rfl, _⟩ := h; rfl) | (obtain ⟨_, _, _, _, _, _, rfl, _⟩ := h; rfl) | (obtain ⟨_, _, _, _, _, _, _, rfl, _⟩ := h; rfl) | (obtain ⟨_, _, _, _, _, _, _, _, rfl, _⟩ := h; rfl) | (obtain ⟨_, _, _, _, _, _, _, _, _, rfl, _⟩ := h; rfl) | (obtain ⟨_, _, _, _, _, _, _, _, _, _, rfl, _⟩ := h; rfl) | (obtain ⟨_, _, _, _, _, _, _, _, _, _, _, rfl, _⟩ := h; rfl) | (obtain ⟨_, _, _, _, _, _, _, _, _, _, _, _, rfl, _⟩ := h; rfl) | (obtain ⟨_, _, _, _, _, _, _, _, _, _, _, _, _, rfl, _⟩ := h; rfl) | (obtain ⟨_, _, _, _, _, _, _, _, _, _, _, _, _, _, rfl, _⟩ := h; rfl) | (obtain ⟨_, _, _, _, _, _, _, _, _, _, _, _, _, _, _, rfl, _⟩ := h; rfl) | (obtain ⟨_, _, _, _, _, _, _, _, _, _, _, _, _, _, _, _, rfl, _⟩ := h; rfl) | (obtain ⟨_, _, _, _, _, _, _, _, _, _, _, _, _, _, _, _, _, rfl, _⟩ := h; rfl) | (obtain ⟨_, _, _, _, _, _, _, _, _, _, _, _, _, _, _, _, _, _, rfl, _⟩ := h; rfl) | (obtain ⟨_, _, _, _, _, _, _, _, _, _, _, _, _, _, _, _, _, _, _, rfl, _⟩ := h; rfl) | (obtain ⟨_, _, _, _, _, _, _, _, _, _, _, _, _, _, _, _, _, _, _, _, rfl, _⟩ := h; rfl) | (obtain ⟨_, _, _, _, _, _, _, _, _, _, _, _, _, _, _, _, _, _, _, _, _, rfl, _⟩ := h; rfl) | (obtain ⟨_, _, _, _, _, _, _, _, _, _, _, _, _, _, _, _, _, _, _, _, _, _, rfl, _⟩ := h; rfl) | (obtain ⟨_, _, _, _, _, _, _, _, _, _, _, _, _, _, _, _, _, _, _, _, _, _, _, rfl, _⟩ := h; rfl) | (obtain ⟨_, _, _, _, _, _, _, _, _, _, _, _, _, _, _, _, _, _, _, _, _, _, _, _, rfl, _⟩ := h; rfl) | (obtain ⟨_, _, _, _, _, _, _, _, _, _, _, _, _, _, _, _, _, _, _, _, _, _, _, _, _, rfl, _⟩ := h; rfl)) (fun cdv A outer s H vs Q E hgd hr h => ⟨_, d__law_said ct_over xf_InvalidNumber no_InvalidNumber_value cuc_repr m_repr g_InvalidNumber hgd hr, p_said02 h⟩)
theorem sc__law_right : FnScope ["_law_one", "_law_two", "_law_a", "_law_b", "_law_c", "_law_d"] ["_law_one", "_law_two", "_law_a", "_law_b", "_law_c", "_law_d"] (defScope s__law_right) := ⟨rfl, rfl, rfl, by decide +kernel, rfl, by decide +kernel, by decide +kernel⟩
theorem d__law_right {P : Program} {w : World} {K : PySem.W.Frag} {mg : Str → Option Value} {base : Heap} {C_Ratio : Addr} {C_InvalidNumber : Addr} {CX : CXT} {f : Addr} {cdv : Value} {A : Around} {outer : List Env} {s : Shared} {H : Hp} {E : XK} (co_add : CalO P w K mg base CX0 5 C_Ratio "__add__" (spAdd K C_Ratio)) (co_radd : CalO P w K mg base CX0 6 C_Ratio "__radd__" (spRadd K C_Ratio)) (oc_R : OpC K C_Ratio) (on_add : OpN K C_Ratio "add") (su_R : PySem.W.subIn K (.ref C_Ratio) (.type "int") = some false) (c__law_is : Cal P w K mg base CX0 3 "_law_is" ["_law_ratio", "_law_top", "_law_bottom"] (spIs02 K C_Ratio)) (co_sub : CalO P w K mg base CX0 5 C_Ratio "__sub__" (spSub K C_Ratio)) (co_rsub : CalO P w K mg base CX0 6 C_Ratio "__rsub__" (spRsub K C_Ratio C_InvalidNumber)) (on_sub : OpN K C_Ratio "sub") (co_mul : CalO P w K mg base CX0 5 C_Ratio "__mul__" (spMul K C_Ratio)) (co_rmul : CalO P w K mg base CX0 6 C_Ratio "__rmul__" (spRmul K C_Ratio)) (on_mul : OpN K C_Ratio "mul") (g_Ratio : mg "Ratio" = some (.ref C_Ratio)) (m_isinstance : mg "isinstance" = none) (ct_over : CalT P w K mg base (L2.CX P w) 6 C_Ratio "over" ["self", "other"] (spOverX K C_Ratio C_InvalidNumber))
    (hr : Room 6 (A.deeper (envOfC "_law_right" (defScope s__law_right) s.heap.objs.size f cdv))) :
    PSs (cxOf CX P w K mg base ["_law_one", "_law_two", "_law_a", "_law_b", "_law_c", "_law_d"] "_law_right" (defScope s__law_right) f cdv A outer s H E) (defBody s__law_right) (t__law_right02 K C_Ratio C_InvalidNumber) :=
  (pss_cons (ps_if (PW.pt (pw_or (pt_not (pt_val (pe_cal c__law_is (hr.mono (by decide)) rfl pass0 (pa_cons (pe_op (op_n3Add co_add co_radd oc_R on_add su_R (hr.mono (by decide)) (hr.mono (by decide))) (pv 0) (pv 1)) (pa_cons (pe_op op_add (pe_op op_mulW (pv 2) (pv 5)) (pe_op op_mulW (pv 4) (pv 3))) (pa_cons (pe_op op_mulW (pv 3) (pv 5)) pa_nil)))))) (pw_or1 (pt_not (pt_val (pe_cal c__law_is (hr.mono (by decide)) rfl pass0 (pa_cons (pe_op (op_n3Add co_add co_radd oc_R on_add su_R (hr.mono (by decide)) (hr.mono (by decide))) (pv 1) (pv 0)) (pa_cons (pe_op op_add (pe_op op_mulW (pv 2) (pv 5)) (pe_op op_mulW (pv 4) (pv 3))) (pa_cons (pe_op op_mulW (pv 3) (pv 5)) pa_nil))))))))) (pss_one (ps_ret pe_bl)) pss_nil)
    (pss_cons (ps_if (PW.pt (pw_or (pt_not (pt_val (pe_cal c__law_is (hr.mono (by decide)) rfl pass0 (pa_cons (pe_op (op_n3Sub co_sub co_rsub oc_R on_sub su_R (hr.mono (by decide)) (hr.mono (by decide))) (pv 0) (pv 1)) (pa_cons (pe_op op_sub (pe_op op_mulW (pv 2) (pv 5)) (pe_op op_mulW (pv 4) (pv 3))) (pa_cons (pe_op op_mulW (pv 3) (pv 5)) pa_nil)))))) (pw_or1 (pt_not (pt_val (pe_cal c__law_is (hr.mono (by decide)) rfl pass0 (pa_cons (pe_op (op_n3Sub co_sub co_rsub oc_R on_sub su_R (hr.mono (by decide)) (hr.mono (by decide))) (pv 1) (pv 0)) (pa_cons (pe_op op_sub (pe_op op_mulW (pv 4) (pv 3)) (pe_op op_mulW (pv 2) (pv 5))) (pa_cons (pe_op op_mulW (pv 3) (pv 5)) pa_nil))))))))) (pss_one (ps_ret pe_bl)) pss_nil)
    (pss_cons (ps_if (PW.pt (pw_or (pt_not (pt_val (pe_cal c__law_is (hr.mono (by decide)) rfl pass0 (pa_cons (pe_op (op_n3Mult co_mul co_rmul oc_R on_mul su_R (hr.mono (by decide)) (hr.mono (by decide))) (pv 0) (pv 1)) (pa_cons (pe_op op_mulW (pv 2) (pv 4)) (pa_cons (pe_op op_mulW (pv 3) (pv 5)) pa_nil)))))) (pw_or1 (pt_not (pt_val (pe_cal c__law_is (hr.mono (by decide)) rfl pass0 (pa_cons (pe_op (op_n3Mult co_mul co_rmul oc_R on_mul su_R (hr.mono (by decide)) (hr.mono (by decide))) (pv 1) (pv 0)) (pa_cons (pe_op op_mulW (pv 2) (pv 4)) (pa_cons (pe_op op_mulW (pv 3) (pv 5)) pa_nil))))))))) (pss_one (ps_ret pe_bl)) pss_nil)
    (pss_one (ps_ret (pe_or (pe_cmpR op_eq (pv 4) pe_int (nomark _)) (pe_or (pe_not (pe_callB call_isi (by rfl) m_isinstance (by decide +kernel) (pa_cons (pv 0) (pa_cons (pe_glob rfl g_Ratio rfl) pa_nil)))) (pe_one (pe_cal c__law_is (hr.mono (by decide)) rfl pass0 (pa_cons (pe_calt ct_over (hr.mono (by decide)) passE0 (pv 0) (pa_cons (pv 1) pa_nil)) (pa_cons (pe_op op_mulW (pv 2) (pv 5)) (pa_cons (pe_op op_mulW (pv 3) (pv 4)) pa_nil))))))))))))
theorem ok__law_right {P : Program} {w : World} {K : PySem.W.Frag} {mg : Str → Option Value} {base : Heap} {C_Ratio : Addr} {C_InvalidNumber : Addr} {f : Addr} {fd : FuncData} (F : FunD K "_law_right" "_law_right" (defArgs s__law_right) (defBody s__law_right) (defScope s__law_right) [] [] f fd) (co_add : CalO P w K mg base CX0 5 C_Ratio "__add__" (spAdd K C_Ratio)) (co_radd : CalO P w K mg base CX0 6 C_Ratio "__radd__" (spRadd K C_Ratio)) (oc_R : OpC K C_Ratio) (on_add : OpN K C_Ratio "add") (su_R : PySem.W.subIn K (.ref C_Ratio) (.type "int") = some false) (c__law_is : Cal P w K mg base CX0 3 "_law_is" ["_law_ratio", "_law_top", "_law_bottom"] (spIs02 K C_Ratio)) (co_sub : CalO P w K mg base CX0 5 C_Ratio "__sub__" (spSub K C_Ratio)) (co_rsub : CalO P w K mg base CX0 6 C_Ratio "__rsub__" (spRsub K C_Ratio C_InvalidNumber)) (on_sub : OpN K C_Ratio "sub") (co_mul : CalO P w K mg base CX0 5 C_Ratio "__mul__" (spMul K C_Ratio)) (co_rmul : CalO P w K mg base CX0 6 C_Ratio "__rmul__" (spRmul K C_Ratio)) (on_mul : OpN K C_Ratio "mul") (g_Ratio : mg "Ratio" = some (.ref C_Ratio)) (m_isinstance : mg "isinstance" = none) (ct_over : CalT P w K mg base (L2.CX P w) 6 C_Ratio "over" ["self", "other"] (spOverX K C_Ratio C_InvalidNumber)) : FnOk P w K mg base CX0 7 f fd ["_law_one", "_law_two", "_law_a", "_law_b", "_law_c", "_law_d"] (spRight02 K C_Ratio C_InvalidNumber) :=
  F.ok sc__law_right (fun vs H Q E h => by first | (obtain ⟨_, rfl, _⟩ := h; rfl) | (obtain ⟨_, _, rfl, _⟩ := h; rfl) | (obtain ⟨_, _, _, rfl, _⟩ := h; rfl) | (obtain ⟨_, _, _, _, rfl, _⟩ := h; rfl) | (obtain ⟨_, _, _, _, _, rfl, _⟩ := h; rfl) | (obtain ⟨_, _, _, _, _, _, rfl, _⟩ := h; rfl) | (obtain ⟨_, _, _, _, _, _, _, rfl, _⟩ := h; rfl) | (obtain ⟨_, _, _, _, _, _, _, _, rfl, _⟩ := h; rfl) | (obtain ⟨_, _, _, _, _, _, _, _, _, rfl, _⟩ := h; rfl) | (obtain ⟨_, _, _, _, _, _, _, _, _, _, rfl, _⟩ := h; rfl) | (obtain ⟨_, _, _, _, _, _, _, _, _, _, _, rfl, _⟩ := h; rfl) | (obtain ⟨_, _, _, _, _, _, _, _, _, _, _, _, rfl, _⟩ := h; rfl) | (obtain ⟨_, _, _, _, _, _, _, _, _, _, _, _, _, rfl, _⟩ := h; rfl) | (obtain ⟨_, _, _, _, _, _, _, _, _, _, _, _, _, _, rfl, _⟩ := h; rfl) | (obtain ⟨_, _, _, _, _, _, _, _, _, _, _, _, _, _, _, rfl, _⟩ := h; rfl) | (obtain ⟨_, _, _, _, _, _, _, _, _, _, _, _, _, _, _, _, rfl, _⟩ := h; rfl) | (obtain ⟨_, _, _, _, _, _, _, _, _, _, _, _, _, _, _, _, _, rfl, _⟩ := h; rfl) | (obtain ⟨_, _, _, _, _, _, _, _, _, _, _, _, _, _, _, _, _, _, rfl, _⟩ := h; rfl) | (obtain ⟨_, _, _, _, _, _, _, _, _, _, _, _, _, _, _, _, _, _, _, rfl, _⟩ := h; rfl) | (obtain ⟨_, _, _, _, _, _, _, _, _, _, _, _, _, _, _, _, _, _, _, _, rfl, _⟩ := h; rfl) | (obtain ⟨_, _, _, _, _, _, _, _, _, _, _, _, _, _, _, _, _, _, _, _, _, rfl, _⟩ := h; rfl) | (obtain ⟨_, _, _, _, _, _, _, _, _, _, _, _, _, _, _, _, _, _, _, _, _, _, rfl, _⟩ := h; rfl) | (obtain ⟨_, _, _, _, _, _, _, _, _, _, _, _, _, _, _, _, _, _, _, _, _, _, _, rfl, _⟩ := h; rfl) | (obtain ⟨_, _, _, _, _, _, _, _, _, _, _, _, _, _, _, _, _, _, _, _, _, _, _, _, rfl, _⟩ := h; rfl) | (obtain ⟨_, _, _, _, _, _, _, _, _, _, _, _, _, _, _, _, _, _, _, _, _, _, _, _, _, rfl, _⟩ := h; rfl)) (fun cdv A outer s H vs Q E hr h => ⟨_, d__law_right co_add co_radd oc_R on_add su_R c__law_is co_sub co_rsub on_sub co_mul co_rmul on_mul g_Ratio m_isinstance ct_over hr, p_right02 h⟩)
theorem sc_law : FnScope ["_law_script", "_law_k", "_law_pool_here", "_law_a", "_law_c", "_law_b", "_law_d", "_law_one", "_law_two", "_law_before", "_law_odd"] ["_law_script"] (defScope s_law) := ⟨rfl, rfl, rfl, by decide +kernel, rfl, by decide +kernel, by decide +kernel⟩
theorem d_law {P : Program} {w : World} {K : PySem.W.Frag} {mg : Str → Option Value} {base : Heap} {C_Ratio : Addr} {C_InvalidNumber : Addr} {CX : CXT} {f : Addr} {cdv : Value} {A : Around} {outer : List Env} {s : Shared} {H : Hp} {E : XK} (m_len : mg "len" = none) (m_min : mg "min" = none) (m_max : mg "max" = none) (m_range : mg "range" = none) (c__law_pool : Cal P w K mg base CX0 1 "_law_pool" ["_law_script", "_law_k"] (RvM.spPool K)) (c__law_whole : Cal P w K mg base CX0 2 "_law_whole" ["_law_pool_here"] (spLWhole02 K)) (c__law_take : Cal P w K mg base CX0 1 "_law_take" ["_law_pool_here", "_law_many"] (RvM.spTake K)) (cm2_Ratio : CalM P w K mg base CX0 2 "Ratio" C_Ratio ["self", "numerator", "denominator"] (spRInit K C_Ratio) []) (cuc_repr : CalUC P w K mg base 1 C_Ratio "__repr__" (spRRepr K C_Ratio)) (m_repr : mg "repr" = none) (c__law_right : Cal P w K mg base CX0 7 "_law_right" ["_law_one", "_law_two", "_law_a", "_law_b", "_law_c", "_law_d"] (spRight02 K C_Ratio C_InvalidNumber)) (cm1_Ratio : CalM P w K mg base CX0 2 "Ratio" C_Ratio ["self", "numerator", "denominator"] (spRInit K C_Ratio) [.int 1]) (c__law_said : CalG P w K mg base CX0 7 "_law_said" ["_law_one", "_law_two"] (spSaid02 K C_Ratio C_InvalidNumber)) (ck_over : CalTN P w K mg base (L2.CX P w) 6 C_Ratio "over" ["self", "other"] (spOverX K C_Ratio C_InvalidNumber) 1 ["other"] (fun vs zs => vs ++ zs)) (c__law_is : Cal P w K mg base CX0 3 "_law_is" ["_law_ratio", "_law_top", "_law_bottom"] (spIs02 K C_Ratio)) (co_add : CalO P w K mg base CX0 5 C_Ratio "__add__" (spAdd K C_Ratio)) (co_radd : CalO P w K mg base CX0 6 C_Ratio "__radd__" (spRadd K C_Ratio)) (oc_R : OpC K C_Ratio) (on_add : OpN K C_Ratio "add") (su_R : PySem.W.subIn K (.ref C_Ratio) (.type "int") = some false) (m_sum : mg "sum" = none) (hgd : A.guards = some [])
    (hr : Room 8 (A.deeper (envOfC "law" (defScope s_law) s.heap.objs.size f cdv))) :
    PSs (cxOf CX P w K mg base ["_law_script", "_law_k", "_law_pool_here", "_law_a", "_law_c", "_law_b", "_law_d", "_law_one", "_law_two", "_law_before", "_law_odd"] "law" (defScope s_law) f cdv A outer s H E) (defBody s_law) (t_law02 K C_Ratio C_InvalidNumber) :=
  (pss_cons (ps_for (passes_of rfl) rfl (pi_range1 rfl m_range (pa_cons (pe_callB (call_max2 rfl) (by rfl) m_max (by decide +kernel) (pa_cons pe_int (pa_cons (pe_callB (call_min2 rfl) (by rfl) m_min (by decide +kernel) (pa_cons pe_int (pa_cons (pe_callB call_len_seq (by rfl) m_len (by decide +kernel) (pa_cons (pv 0) pa_nil)) pa_nil))) pa_nil))) pa_nil)) (pg_name (i := 1) sc_law.nd rfl (by first | exact Or.inl rfl | exact Or.inr rfl)) (pss_cons (ps_set (i := 2) sc_law.nd rfl (by first | exact Or.inl rfl | exact Or.inr rfl) (pe_cal c__law_pool (hr.mono (by decide)) rfl pass0 (pa_cons (pv 0) (pa_cons (pv 1) pa_nil))))
    (pss_cons (ps_par (by rfl) sc_law.nd rfl rfl (by decide) rfl rfl (pa_cons (pe_cal c__law_whole (hr.mono (by decide)) rfl pass0 (pa_cons (pv 2) pa_nil)) (pa_cons (pe_cal c__law_whole (hr.mono (by decide)) rfl pass0 (pa_cons (pv 2) pa_nil)) pa_nil)) (by rfl))
    (pss_cons (ps_par (by rfl) sc_law.nd rfl rfl (by decide) rfl rfl (pa_cons (pe_op op_add pe_int (pe_cal c__law_take (hr.mono (by decide)) rfl pass0 (pa_cons (pv 2) (pa_cons pe_int pa_nil)))) (pa_cons (pe_op op_add pe_int (pe_cal c__law_take (hr.mono (by decide)) rfl pass0 (pa_cons (pv 2) (pa_cons (pe_op op_pow pe_int pe_int) pa_nil)))) pa_nil)) (by rfl))
    (pss_cons (ps_par (by rfl) sc_law.nd rfl rfl (by decide) rfl rfl (pa_cons (pe_calm cm2_Ratio (hr.mono (by decide)) (by rfl) pass0 (pa_cons (pv 3) (pa_cons (pv 5) pa_nil))) (pa_cons (pe_calm cm2_Ratio (hr.mono (by decide)) (by rfl) pass0 (pa_cons (pv 4) (pa_cons (pv 6) pa_nil))) pa_nil)) (by rfl))
    (pss_cons (ps_set (i := 9) sc_law.nd rfl (by first | exact Or.inl rfl | exact Or.inr rfl) (pe_callB (call_reprLO cuc_repr hgd (roomH_any (hr.mono (by decide)))) (by rfl) m_repr (by decide +kernel) (pa_cons (pe_lst (pa_cons (pv 7) (pa_cons (pv 8) pa_nil))) pa_nil)))
    (pss_cons (ps_if (PW.pt (pw_or (pt_not (pt_val (pe_cal c__law_right (hr.mono (by decide)) rfl pass0 (pa_cons (pv 7) (pa_cons (pv 8) (pa_cons (pv 3) (pa_cons (pv 5) (pa_cons (pv 4) (pa_cons (pv 6) pa_nil))))))))) (pw_or1 (pt_not (pt_val (pe_cal c__law_right (hr.mono (by decide)) rfl pass0 (pa_cons (pv 7) (pa_cons (pv 4) (pa_cons (pv 3) (pa_cons (pv 5) (pa_cons (pv 4) (pa_cons pe_int pa_nil)))))))))))) (pss_one (ps_ret pe_bl)) pss_nil)
    (pss_cons (ps_if (PW.pt (pw_or (pt_not (pt_val (pe_cal c__law_right (hr.mono (by decide)) rfl pass0 (pa_cons (pv 3) (pa_cons (pv 8) (pa_cons (pv 3) (pa_cons pe_int (pa_cons (pv 4) (pa_cons (pv 6) pa_nil))))))))) (pw_or1 (pt_not (pt_val (pe_cal c__law_right (hr.mono (by decide)) rfl pass0 (pa_cons (pv 7) (pa_cons (pv 7) (pa_cons (pv 3) (pa_cons (pv 5) (pa_cons (pv 3) (pa_cons (pv 5) pa_nil)))))))))))) (pss_one (ps_ret pe_bl)) pss_nil)
    (pss_cons (ps_if (pt_cmpR op_ne (pe_callB (call_reprLO cuc_repr hgd (roomH_any (hr.mono (by decide)))) (by rfl) m_repr (by decide +kernel) (pa_cons (pe_lst (pa_cons (pv 7) (pa_cons (pv 8) pa_nil))) pa_nil)) (pv 9) (nomark _)) (pss_one (ps_ret pe_bl)) pss_nil)
    (pss_one (ps_for (passes_of rfl) rfl (pi_list (pe_lst (pa_cons pe_int (pa_cons (pe_calm cm1_Ratio (hr.mono (by decide)) (by rfl) pass0 (pa_cons pe_int pa_nil)) (pa_cons pe_non (pa_cons pe_str (pa_cons pe_bl (pa_cons pe_bl (pa_cons (pe_tup (pa_cons pe_int pa_nil)) (pa_cons (pe_lst (pa_cons pe_int pa_nil)) pa_nil)))))))))) (pg_name (i := 10) sc_law.nd rfl (by first | exact Or.inl rfl | exact Or.inr rfl)) (pss_one (ps_if (pt_cmpR op_ne (pe_calG c__law_said hgd (hr.mono (by decide)) rfl pass0 (pa_cons (pv 7) (pa_cons (pv 10) pa_nil))) (pe_callB (call_reprA cuc_repr hgd (roomH_any (hr.mono (by decide)))) (by rfl) m_repr (by decide +kernel) (pa_cons (pv 10) pa_nil)) (nomark _)) (pss_one (ps_ret pe_bl)) pss_nil)))))))))))))
    (pss_one (ps_ret (pe_and (pe_cal c__law_is (hr.mono (by decide)) rfl pass0 (pa_cons (pe_methK ck_over (hr.mono (by decide)) passAt0 (pe_calm cm2_Ratio (hr.mono (by decide)) (by rfl) pass0 (pa_cons pe_int (pa_cons pe_int pa_nil))) (pk_cons pe_int pk_nil)) (pa_cons pe_int (pa_cons pe_int pa_nil)))) (pe_one (pe_cal c__law_is (hr.mono (by decide)) rfl pass0 (pa_cons (pe_callB (call_sumO (addG co_add co_radd oc_R on_add su_R (Room.in1 (hr.mono (by decide))) (Room.in1 (hr.mono (by decide))) (fun _ _ e => e.in1)) hr.hd) (by rfl) m_sum (by decide +kernel) (pa_cons (pe_lst (pa_cons (pe_calm cm2_Ratio (hr.mono (by decide)) (by rfl) pass0 (pa_cons pe_int (pa_cons pe_int pa_nil))) (pa_cons (pe_calm cm2_Ratio (hr.mono (by decide)) (by rfl) pass0 (pa_cons pe_int (pa_cons pe_int pa_nil))) (pa_cons pe_int pa_nil)))) pa_nil)) (pa_cons pe_int (pa_cons pe_int pa_nil)))))))))
theorem ok_law {P : Program} {w : World} {K : PySem.W.Frag} {mg : Str → Option Value} {base : Heap} {C_Ratio : Addr} {C_InvalidNumber : Addr} {f : Addr} {fd : FuncData} (F : FunD K "law" "law" (defArgs s_law) (defBody s_law) (defScope s_law) [] [] f fd) (m_len : mg "len" = none) (m_min : mg "min" = none) (m_max : mg "max" = none) (m_range : mg "range" = none) (c__law_pool : Cal P w K mg base CX0 1 "_law_pool" ["_law_script", "_law_k"] (RvM.spPool K)) (c__law_whole : Cal P w K mg base CX0 2 "_law_whole" ["_law_pool_here"] (spLWhole02 K)) (c__law_take : Cal P w K mg base CX0 1 "_law_take" ["_law_pool_here", "_law_many"] (RvM.spTake K)) (cm2_Ratio : CalM P w K mg base CX0 2 "Ratio" C_Ratio ["self", "numerator", "denominator"] (spRInit K C_Ratio) []) (cuc_repr : CalUC P w K mg base 1 C_Ratio "__repr__" (spRRepr K C_Ratio)) (m_repr : mg "repr" = none) (c__law_right : Cal P w K mg base CX0 7 "_law_right" ["_law_one", "_law_two", "_law_a", "_law_b", "_law_c", "_law_d"] (spRight02 K C_Ratio C_InvalidNumber)) (cm1_Ratio : CalM P w K mg base CX0 2 "Ratio" C_Ratio ["self", "numerator", "denominator"] (spRInit K C_Ratio) [.int 1]) (c__law_said : CalG P w K mg base CX0 7 "_law_said" ["_law_one", "_law_two"] (spSaid02 K C_Ratio C_InvalidNumber)) (ck_over : CalTN P w K mg base (L2.CX P w) 6 C_Ratio "over" ["self", "other"] (spOverX K C_Ratio C_InvalidNumber) 1 ["other"] (fun vs zs => vs ++ zs)) (c__law_is : Cal P w K mg base CX0 3 "_law_is" ["_law_ratio", "_law_top", "_law_bottom"] (spIs02 K C_Ratio)) (co_add : CalO P w K mg base CX0 5 C_Ratio "__add__" (spAdd K C_Ratio)) (co_radd : CalO P w K mg base CX0 6 C_Ratio "__radd__" (spRadd K C_Ratio)) (oc_R : OpC K C_Ratio) (on_add : OpN K C_Ratio "add") (su_R : PySem.W.subIn K (.ref C_Ratio) (.type "int") = some false) (m_sum : mg "sum" = none) : FnOkG P w K mg base CX0 9 f fd ["_law_script"] (spLaw02 K C_Ratio C_InvalidNumber) :=
  Rv.FunD.okG F sc_law (fun vs H Q E h => by first | (obtain ⟨_, rfl, _⟩ := h; rfl) | (obtain ⟨_, _, rfl, _⟩ := h; rfl) | (obtain ⟨_, _, _, rfl, _⟩ := h; rfl) | (obtain ⟨_, _, _, _, rfl, _⟩ := h; rfl) | (obtain ⟨_, _, _, _, _, rfl, _⟩ := h; rfl) | (obtain ⟨_, _, _, _, _, _, rfl, _⟩ := h; rfl) | (obtain ⟨_, _, _, _, _, _, _, rfl, _⟩ := h; rfl) | (obtain ⟨_, _, _, _, _, _, _, _, rfl, _⟩ := h; rfl) | (obtain ⟨_, _, _, _, _, _, _, _, _, rfl, _⟩ := h; rfl) | (obtain ⟨_, _, _, _, _, _, _, _, _, _, rfl, _⟩ := h; rfl) | (obtain ⟨_, _, _, _, _, _, _, _, _, _, _, rfl, _⟩ := h; rfl) | (obtain ⟨_, _, _, _, _, _, _, _, _, _, _, _, rfl, _⟩ := h; rfl) | (obtain ⟨_, _, _, _, _, _, _, _, _, _, _, _, _, rfl, _⟩ := h; rfl) | (obtain ⟨_, _, _, _, _, _, _, _, _, _, _, _, _, _, rfl, _⟩ := h; rfl) | (obtain ⟨_, _, _, _, _, _, _, _, _, _, _, _, _, _, _, rfl, _⟩ := h; rfl) | (obtain ⟨_, _, _, _, _, _, _, _, _, _, _, _, _, _, _, _, rfl, _⟩ := h; rfl) | (obtain ⟨_, _, _, _, _, _, _, _, _, _, _, _, _, _, _, _, _, rfl, _⟩ := h; rfl) | (obtain ⟨_, _, _, _, _, _, _, _, _, _, _, _, _, _, _, _, _, _, rfl, _⟩ := h; rfl) | (obtain ⟨_, _, _, _, _, _, _, _, _, _, _, _, _, _, _, _, _, _, _, rfl, _⟩ := h; rfl) | (obtain ⟨_, _, _, _, _, _, _, _, _, _, _, _, _, _, _, _, _, _, _, _, rfl, _⟩ := h; rfl) | (obtain ⟨_, _, _, _, _, _, _, _, _, _, _, _, _, _, _, _, _, _, _, _, _, rfl, _⟩ := h; rfl) | (obtain ⟨_, _, _, _, _, _, _, _, _, _, _, _, _, _, _, _, _, _, _, _, _, _, rfl, _⟩ := h; rfl) | (obtain ⟨_, _, _, _, _, _, _, _, _, _, _, _, _, _, _, _, _, _, _, _, _, _, _, rfl, _⟩ := h; rfl) | (obtain ⟨_, _, _, _, _, _, _, _, _, _, _, _, _, _, _, _, _, _, _, _, _, _, _, _, rfl, _⟩ := h; rfl) | (obtain ⟨_, _, _, _, _, _, _, _, _, _, _, _, _, _, _, _, _, _, _, _, _, _, _, _, _, rfl, _⟩ := h; rfl)) (fun cdv A outer s H vs Q E hgd hr h => ⟨_, d_law m_len m_min m_max m_range c__law_pool c__law_whole c__law_take cm2_Ratio cuc_repr m_repr c__law_right cm1_Ratio c__law_said ck_over c__law_is co_add co_radd oc_R on_add su_R m_sum hgd hr, p_law02 h⟩)
theorem sc_get_top : FnScope ["self"] ["self"] (defScope s_get_top) := ⟨rfl, rfl, rfl, by decide +kernel, rfl, by decide +kernel, by decide +kernel⟩
theorem ok_get_top {P : Program} {w : World} {K : PySem.W.Frag} {mg : Str → Option Value} {base : Heap} {C f : Addr} {fd : FuncData} (F : FunD K "top" "Ratio.top" (defArgs s_get_top) (defBody s_get_top) (defScope s_get_top) [] [] f fd) (c : Cls K C) (n : NoAttr K C "reduced_top") : FnOk P w K mg base CX0 1 f fd ["self"] (getSp C "reduced_top") := by
  obtain ⟨oc, od, dV, kV, doc, pm, an, cdv, ct, osl, rfl, lk, hcd, _, _⟩ := F.ex
  exact fn_getter (N := ["self"]) lk hcd sc_get_top rfl rfl c n
theorem sc_get_bottom : FnScope ["self"] ["self"] (defScope s_get_bottom) := ⟨rfl, rfl, rfl, by decide +kernel, rfl, by decide +kernel, by decide +kernel⟩
theorem ok_get_bottom {P : Program} {w : World} {K : PySem.W.Frag} {mg : Str → Option Value} {base : Heap} {C f : Addr} {fd : FuncData} (F : FunD K "bottom" "Ratio.bottom" (defArgs s_get_bottom) (defBody s_get_bottom) (defScope s_get_bottom) [] [] f fd) (c : Cls K C) (n : NoAttr K C "reduced_bottom") : FnOk P w K mg base CX0 1 f fd ["self"] (getSp C "reduced_bottom") := by
  obtain ⟨oc, od, dV, kV, doc, pm, an, cdv, ct, osl, rfl, lk, hcd, _, _⟩ := F.ex
  exact fn_getter (N := ["self"]) lk hcd sc_get_bottom rfl rfl c n
theorem exb_top {K : PySem.W.Frag} (h : exB K = true) : prB K "Ratio" "top" = true := (He.ba h).1
theorem exb_bottom {K : PySem.W.Frag} (h : exB K = true) : prB K "Ratio" "bottom" = true := (He.ba (He.ba h).2).1
theorem exb_clsR {K : PySem.W.Frag} (h : exB K = true) : clB K "Ratio" = true := (He.ba (He.ba (He.ba h).2).2).1
theorem exb_ki {K : PySem.W.Frag} (h : exB K = true) : kiB K "Ratio" = true := (He.ba (He.ba (He.ba (He.ba h).2).2).2).1
theorem exb_opc {K : PySem.W.Frag} (h : exB K = true) : opcB K "Ratio" = true := (He.ba (He.ba (He.ba (He.ba (He.ba h).2).2).2).2).1
theorem exb_add {K : PySem.W.Frag} (h : exB K = true) : opnB K "Ratio" "add" = true := (He.ba (He.ba (He.ba (He.ba (He.ba (He.ba h).2).2).2).2).2).1
theorem exb_sub {K : PySem.W.Frag} (h : exB K = true) : opnB K "Ratio" "sub" = true := (He.ba (He.ba (He.ba (He.ba (He.ba (He.ba (He.ba h).2).2).2).2).2).2).1
theorem exb_mul {K : PySem.W.Frag} (h : exB K = true) : opnB K "Ratio" "mul" = true := (He.ba (He.ba (He.ba (He.ba (He.ba (He.ba (He.ba (He.ba h).2).2).2).2).2).2).2).1
theorem exb_su {K : PySem.W.Frag} (h : exB K = true) : RvM.suB K "Ratio" = true := (He.ba (He.ba (He.ba (He.ba (He.ba (He.ba (He.ba (He.ba (He.ba h).2).2).2).2).2).2).2).2).1
theorem exb_od {K : PySem.W.Frag} (h : exB K = true) : odB K "Ratio" = true := (He.ba (He.ba (He.ba (He.ba (He.ba (He.ba (He.ba (He.ba (He.ba (He.ba h).2).2).2).2).2).2).2).2).2).1
theorem exb_rki {K : PySem.W.Frag} (h : exB K = true) : decide (PySem.W.kitOne K (.ref (He.ga K "Ratio")) (.type "int") = some false) = true := (He.ba (He.ba (He.ba (He.ba (He.ba (He.ba (He.ba (He.ba (He.ba (He.ba (He.ba h).2).2).2).2).2).2).2).2).2).2).1
theorem exb_ox_InvalidNumber {K : PySem.W.Frag} (h : exB K = true) : oxB K "InvalidNumber" "ValueError.__new__" bm_ValueError = true := (He.ba (He.ba (He.ba (He.ba (He.ba (He.ba (He.ba (He.ba (He.ba (He.ba (He.ba (He.ba h).2).2).2).2).2).2).2).2).2).2).2).1
theorem exb_xf_InvalidNumber {K : PySem.W.Frag} (h : exB K = true) : xfB K (He.ga K "InvalidNumber") = true := (He.ba (He.ba (He.ba (He.ba (He.ba (He.ba (He.ba (He.ba (He.ba (He.ba (He.ba (He.ba (He.ba h).2).2).2).2).2).2).2).2).2).2).2).2).1
theorem exb_no_InvalidNumber {K : PySem.W.Frag} (h : exB K = true) : decide (PySem.W.findIn K (.ref (He.ga K "InvalidNumber")) "value" = some none) = true := (He.ba (He.ba (He.ba (He.ba (He.ba (He.ba (He.ba (He.ba (He.ba (He.ba (He.ba (He.ba (He.ba (He.ba h).2).2).2).2).2).2).2).2).2).2).2).2).2).1
theorem exb_ec_InvalidNumber {K : PySem.W.Frag} (h : exB K = true) : ecB K "InvalidNumber" = true := (He.ba (He.ba (He.ba (He.ba (He.ba (He.ba (He.ba (He.ba (He.ba (He.ba (He.ba (He.ba (He.ba (He.ba (He.ba h).2).2).2).2).2).2).2).2).2).2).2).2).2).2).1
theorem exb_bg_RainError {K : PySem.W.Frag} (h : exB K = true) : bgB K "RainError" "ValueError.__init__" = true := (He.ba (He.ba (He.ba (He.ba (He.ba (He.ba (He.ba (He.ba (He.ba (He.ba (He.ba (He.ba (He.ba (He.ba (He.ba (He.ba h).2).2).2).2).2).2).2).2).2).2).2).2).2).2).2).1
theorem exb_em {K : PySem.W.Frag} (h : exB K = true) : decide (PySem.W.exmOne K (.ref (He.ga K "InvalidNumber")) (.ref (He.ga K "InvalidNumber")) = some true) = true := (He.ba (He.ba (He.ba (He.ba (He.ba (He.ba (He.ba (He.ba (He.ba (He.ba (He.ba (He.ba (He.ba (He.ba (He.ba (He.ba h).2).2).2).2).2).2).2).2).2).2).2).2).2).2).2).2
theorem facts {P : Program} {w : World} {K : PySem.W.Frag} {h : Heap} {mg : Str → Option Value} {f : Addr} (X : K.In h) (G : h.Ns mainGlobals mg) (hfa : mg ("law" : Str) = some (.ref f)) (c : SaysR fa fn gts exB K) :
    ∃ fd : FuncData, (∀ (s : Shared) (v : Value), BindsTo s fd ⟨[v], []⟩ [("_law_script", v)]) ∧ (RCls K (He.ga K "Ratio") ∧ RKi K (He.ga K "Ratio") ∧ OdC K (He.ga K "Ratio") ∧ XN K (He.ga K "InvalidNumber") ∧ PySem.W.exmOne K (.ref (He.ga K "InvalidNumber")) (.ref (He.ga K "InvalidNumber")) = some true) ∧ ∀ base : Heap, K.In base → base.Ns mainGlobals mg → FnOkG P w K mg base CX0 9 f fd ["_law_script"] (spLaw02 K (He.ga K "Ratio") (He.ga K "InvalidNumber")) := by
  obtain ⟨fd0, F0⟩ := c.d.def_ 0 (d := D_InvalidNumber___init__) rfl
  obtain ⟨fd1, F1⟩ := c.d.def_ 1 (d := D_is_whole) rfl
  obtain ⟨fd2, F2⟩ := c.d.def_ 2 (d := D_common_divisor) rfl
  obtain ⟨fd3, F3⟩ := c.d.def_ 3 (d := D_gap) rfl
  obtain ⟨fd4, F4⟩ := c.d.def_ 4 (d := D_Ratio___init__) rfl
  obtain ⟨fd5, F5⟩ := c.d.def_ 5 (d := D_Ratio___init__X) rfl
  obtain ⟨fd6, F6⟩ := c.d.def_ 6 (d := D_as_ratio) rfl
  obtain ⟨fd7, F7⟩ := c.d.def_ 7 (d := D_as_ratioX) rfl
  obtain ⟨fd8, F8⟩ := c.d.def_ 8 (d := D_Ratio_overX) rfl
  obtain ⟨fd9, F9⟩ := c.d.def_ 9 (d := D_Ratio___add__) rfl
  obtain ⟨fd10, F10⟩ := c.d.def_ 10 (d := D_Ratio___radd__) rfl
  obtain ⟨fd11, F11⟩ := c.d.def_ 11 (d := D_Ratio___sub__) rfl
  obtain ⟨fd12, F12⟩ := c.d.def_ 12 (d := D_Ratio___neg__) rfl
  obtain ⟨fd13, F13⟩ := c.d.def_ 13 (d := D_Ratio___rsub__) rfl
  obtain ⟨fd14, F14⟩ := c.d.def_ 14 (d := D_Ratio___mul__) rfl
  obtain ⟨fd15, F15⟩ := c.d.def_ 15 (d := D_Ratio___rmul__) rfl
  obtain ⟨fd16, F16⟩ := c.d.def_ 16 (d := D_Ratio___repr__) rfl
  obtain ⟨fd17, F17⟩ := c.d.def_ 17 (d := D__law_pool) rfl
  obtain ⟨fd18, F18⟩ := c.d.def_ 18 (d := D__law_take) rfl
  obtain ⟨fd19, F19⟩ := c.d.def_ 19 (d := D__law_whole) rfl
  obtain ⟨fd20, F20⟩ := c.d.def_ 20 (d := D__law_is) rfl
  obtain ⟨fd21, F21⟩ := c.d.def_ 21 (d := D__law_said) rfl
  obtain ⟨fd22, F22⟩ := c.d.def_ 22 (d := D__law_right) rfl
  obtain ⟨fd23, F23⟩ := c.d.def_ 23 (d := D_law) rfl
  have e := hfa.symm.trans (He.glo_ok X G (c.d.fact 37 (f := .glo "law") rfl))
  cases e
  have b := FunD.bindsA (ps := ["_law_script"]) F23 fun _ _ _ _ _ _ us hl => match us, hl with | [_], _ => rfl
  have sdR : RCls K (He.ga K "Ratio") := rcls_of (He.cls_ok (c.d.fact 12 (f := .cls "Ratio") rfl)) (He.noat_ok (c.d.fact 14 (f := .noat "Ratio" "reduced_top") rfl)) (He.noat_ok (c.d.fact 15 (f := .noat "Ratio" "reduced_bottom") rfl)) (exb_clsR c.x) (exb_ki c.x)
  have sd : RCls K (He.ga K "Ratio") ∧ RKi K (He.ga K "Ratio") ∧ OdC K (He.ga K "Ratio") ∧ XN K (He.ga K "InvalidNumber") ∧ PySem.W.exmOne K (.ref (He.ga K "InvalidNumber")) (.ref (He.ga K "InvalidNumber")) = some true := ⟨sdR, rki_of (exb_rki c.x), odc_of (exb_od c.x), ⟨ox_ok PySem.F.excBase_ValueError mok_ve (exb_ox_InvalidNumber c.x), of_decide_eq_true (exb_no_InvalidNumber c.x)⟩, of_decide_eq_true (exb_em c.x)⟩
  refine ⟨fd23, fun s v => b s [v] rfl, sd, fun base _ _ => ?_⟩
  have m_int := He.free_ok X G (c.d.fact 0 (f := .free "int") rfl)
  have m_isinstance := He.free_ok X G (c.d.fact 1 (f := .free "isinstance") rfl)
  have m_bool := He.free_ok X G (c.d.fact 2 (f := .free "bool") rfl)
  have m_abs := He.free_ok X G (c.d.fact 3 (f := .free "abs") rfl)
  have m_repr := He.free_ok X G (c.d.fact 4 (f := .free "repr") rfl)
  have m_len := He.free_ok X G (c.d.fact 5 (f := .free "len") rfl)
  have m_min := He.free_ok X G (c.d.fact 6 (f := .free "min") rfl)
  have m_max := He.free_ok X G (c.d.fact 7 (f := .free "max") rfl)
  have m_range := He.free_ok X G (c.d.fact 8 (f := .free "range") rfl)
  have m_sum := He.free_ok X G (c.d.fact 9 (f := .free "sum") rfl)
  have g_InvalidNumber := He.glo_ok X G (c.d.fact 10 (f := .glo "InvalidNumber") rfl)
  have g_Ratio := He.glo_ok X G (c.d.fact 11 (f := .glo "Ratio") rfl)
  have k_Ratio := He.cls_ok (c.d.fact 12 (f := .cls "Ratio") rfl)
  have g_RainError := He.glo_ok X G (c.d.fact 13 (f := .glo "RainError") rfl)
  have nT := He.noat_ok (c.d.fact 14 (f := .noat "Ratio" "reduced_top") rfl)
  have nB := He.noat_ok (c.d.fact 15 (f := .noat "Ratio" "reduced_bottom") rfl)
  have mkR := He.mkr_ok (c.d.fact 16 (f := .mkr "Ratio") rfl)
  obtain ⟨fg0, Fg0⟩ := c.g 0 (g := G_top) rfl
  have cp_top : CalP P w K mg base CX0 1 (He.ga K "Ratio") "top" (getSp (He.ga K "Ratio") "reduced_top") := ⟨_, _, fg0, ok_get_top Fg0 k_Ratio nT, k_Ratio, pr_of (exb_top c.x), Fg0.bindsN fun _ _ _ _ _ _ us hl => match us, hl with | [_], _ => rfl⟩
  obtain ⟨fg1, Fg1⟩ := c.g 1 (g := G_bottom) rfl
  have cp_bottom : CalP P w K mg base CX0 1 (He.ga K "Ratio") "bottom" (getSp (He.ga K "Ratio") "reduced_bottom") := ⟨_, _, fg1, ok_get_bottom Fg1 k_Ratio nB, k_Ratio, pr_of (exb_bottom c.x), Fg1.bindsN fun _ _ _ _ _ _ us hl => match us, hl with | [_], _ => rfl⟩
  have oc_R := opc_of (exb_opc c.x)
  have on_add := opn_of (exb_add c.x)
  have on_sub := opn_of (exb_sub c.x)
  have on_mul := opn_of (exb_mul c.x)
  have su_R : PySem.W.subIn K (.ref (He.ga K "Ratio")) (.type "int") = some false := of_decide_eq_true (exb_su c.x)
  have ox_InvalidNumber := ox_ok PySem.F.excBase_ValueError mok_ve (exb_ox_InvalidNumber c.x)
  have xf_InvalidNumber := xfB_ok (exb_xf_InvalidNumber c.x)
  have no_InvalidNumber_value := of_decide_eq_true (exb_no_InvalidNumber c.x)
  have ec_InvalidNumber := ec_of (exb_ec_InvalidNumber c.x)
  have bg_RainError := bg_ok (exb_bg_RainError c.x)
  have me_ini_InvalidNumber := He.meth_ok (c.d.fact 17 (f := .meth "InvalidNumber" "__init__") rfl)
  have cx_InvalidNumber : CalX P w K mg base CX0 1 "InvalidNumber" (He.ga K "InvalidNumber") ["self", "value"] (spExc K (He.ga K "InvalidNumber") "ValueError" "ValueError.__new__" "ValueError.__init__" bm_ValueError "value") [] "ValueError" "ValueError.__new__" "ValueError.__init__" bm_ValueError := ⟨_, fd0, [], ok_InvalidNumber___init__ F0 bg_RainError g_RainError, ox_InvalidNumber, me_ini_InvalidNumber.at_, beq_iff_eq.mp me_ini_InvalidNumber.fn, g_InvalidNumber, F0.bindsN fun _ _ _ _ _ _ us hl => match us, hl with | [_, _], _ => rfl, .nil⟩
  have c_is_whole : Cal P w K mg base CX0 1 "is_whole" ["value"] (spWhole K) := ⟨_, fd1, ok_is_whole F1 m_int m_isinstance m_bool, He.glo_ok X G (c.d.fact 18 (f := .glo "is_whole") rfl), F1.kp, F1.bindsN fun _ _ _ _ _ _ us hl => match us, hl with | [_], _ => rfl⟩
  have c_common_divisor : Cal P w K mg base CX0 1 "common_divisor" ["first", "second"] (spGcd K) := ⟨_, fd2, ok_common_divisor F2 , He.glo_ok X G (c.d.fact 19 (f := .glo "common_divisor") rfl), F2.kp, F2.bindsN fun _ _ _ _ _ _ us hl => match us, hl with | [_, _], _ => rfl⟩
  have c_gap : Cal P w K mg base CX0 1 "gap" ["left", "right"] (spGap K (He.ga K "Ratio")) := ⟨_, fd3, ok_gap F3 , He.glo_ok X G (c.d.fact 20 (f := .glo "gap") rfl), F3.kp, F3.bindsN fun _ _ _ _ _ _ us hl => match us, hl with | [_, _], _ => rfl⟩
  obtain ⟨dr1, vr1, br1⟩ := F4.binds1 (ps := ["self", "numerator", "denominator"]) 2 0 (show ([V.int 1] : List V) ≠ [] from List.cons_ne_nil _ _) rfl (fun _ _ _ _ _ _ _ us its h1 h2 => match us, its, h1, h2 with | [_, _], [_], _, _ => ⟨_, rfl, rfl⟩)
  obtain ⟨dr2, vr2, br2⟩ := F4.binds1 (ps := ["self", "numerator", "denominator"]) 3 1 (show ([V.int 1] : List V) ≠ [] from List.cons_ne_nil _ _) rfl (fun _ _ _ _ _ _ _ us its h1 h2 => match us, its, h1, h2 with | [_, _, _], [_], _, _ => ⟨_, rfl, rfl⟩)
  have cm1_Ratio : CalM P w K mg base CX0 2 "Ratio" (He.ga K "Ratio") ["self", "numerator", "denominator"] (spRInit K (He.ga K "Ratio")) [.int 1] := ⟨_, fd4, dr1, ok_Ratio___init__ F4 c_is_whole m_abs c_common_divisor, mkR, g_Ratio, br1, vr1⟩
  have cm2_Ratio : CalM P w K mg base CX0 2 "Ratio" (He.ga K "Ratio") ["self", "numerator", "denominator"] (spRInit K (He.ga K "Ratio")) [] := ⟨_, fd4, dr2, ok_Ratio___init__ F4 c_is_whole m_abs c_common_divisor, mkR, g_Ratio, br2, vr2⟩
  obtain ⟨dr3, vr3, br3⟩ := F5.binds1 (ps := ["self", "numerator", "denominator"]) 3 1 (show ([V.int 1] : List V) ≠ [] from List.cons_ne_nil _ _) rfl (fun _ _ _ _ _ _ _ us its h1 h2 => match us, its, h1, h2 with | [_, _, _], [_], _, _ => ⟨_, rfl, rfl⟩)
  have cmx2_Ratio : CalM P w K mg base (L2.CX P w) 3 "Ratio" (He.ga K "Ratio") ["self", "numerator", "denominator"] (spRInitX K (He.ga K "Ratio") (He.ga K "InvalidNumber")) [] := ⟨_, fd5, dr3, ok_Ratio___init__X F5 c_is_whole cx_InvalidNumber m_abs c_common_divisor, mkR, g_Ratio, br3, vr3⟩
  have c_as_ratio : Cal P w K mg base CX0 4 "as_ratio" ["value"] (spAsR K (He.ga K "Ratio")) := ⟨_, fd6, ok_as_ratio F6 g_Ratio m_isinstance c_is_whole cm1_Ratio, He.glo_ok X G (c.d.fact 21 (f := .glo "as_ratio") rfl), F6.kp, F6.bindsN fun _ _ _ _ _ _ us hl => match us, hl with | [_], _ => rfl⟩
  have c_as_ratioX : Cal P w K mg base CX0 4 "as_ratio" ["value"] (spAsRX K (He.ga K "Ratio")) := ⟨_, fd7, ok_as_ratioX F7 g_Ratio m_isinstance c_is_whole cm1_Ratio, He.glo_ok X G (c.d.fact 21 (f := .glo "as_ratio") rfl), F7.kp, F7.bindsN fun _ _ _ _ _ _ us hl => match us, hl with | [_], _ => rfl⟩
  have me_over := He.meth_ok (c.d.fact 22 (f := .meth "Ratio" "over") rfl)
  have ct_over : CalT P w K mg base (L2.CX P w) 6 (He.ga K "Ratio") "over" ["self", "other"] (spOverX K (He.ga K "Ratio") (He.ga K "InvalidNumber")) := ⟨_, fd8, ok_Ratio_overX F8 c_as_ratioX cx_InvalidNumber cmx2_Ratio, k_Ratio, me_over, F8.bindsN fun _ _ _ _ _ _ us hl => match us, hl with | [_, _], _ => rfl⟩
  have ck_over : CalTN P w K mg base (L2.CX P w) 6 (He.ga K "Ratio") "over" ["self", "other"] (spOverX K (He.ga K "Ratio") (He.ga K "InvalidNumber")) 1 ["other"] (fun vs zs => vs ++ zs) := ⟨_, fd8, _, ok_Ratio_overX F8 c_as_ratioX cx_InvalidNumber cmx2_Ratio, k_Ratio, me_over, FunD.kb1 (n := 1) F8 ["other"] fun _ _ _ _ _ _ us ws h1 h2 => match us, ws, h1, h2 with | [_], [_], _, _ => rfl⟩
  have me_add := He.meth_ok (c.d.fact 23 (f := .meth "Ratio" "__add__") rfl)
  have co_add : CalO P w K mg base CX0 5 (He.ga K "Ratio") "__add__" (spAdd K (He.ga K "Ratio")) := ⟨_, fd9, ok_Ratio___add__ F9 c_as_ratio cm2_Ratio, me_add.at_, me_add.fn, F9.bindsN fun _ _ _ _ _ _ us hl => match us, hl with | [_, _], _ => rfl⟩
  have me_radd := He.meth_ok (c.d.fact 24 (f := .meth "Ratio" "__radd__") rfl)
  have co_radd : CalO P w K mg base CX0 6 (He.ga K "Ratio") "__radd__" (spRadd K (He.ga K "Ratio")) := ⟨_, fd10, ok_Ratio___radd__ F10 co_add oc_R on_add, me_radd.at_, me_radd.fn, F10.bindsN fun _ _ _ _ _ _ us hl => match us, hl with | [_, _], _ => rfl⟩
  have me_sub := He.meth_ok (c.d.fact 25 (f := .meth "Ratio" "__sub__") rfl)
  have co_sub : CalO P w K mg base CX0 5 (He.ga K "Ratio") "__sub__" (spSub K (He.ga K "Ratio")) := ⟨_, fd11, ok_Ratio___sub__ F11 c_as_ratio c_gap cm2_Ratio, me_sub.at_, me_sub.fn, F11.bindsN fun _ _ _ _ _ _ us hl => match us, hl with | [_, _], _ => rfl⟩
  have me_neg := He.meth_ok (c.d.fact 26 (f := .meth "Ratio" "__neg__") rfl)
  have cs_neg : CalS P w K mg base CX0 5 (He.ga K "Ratio") "__neg__" (spNegR K (He.ga K "Ratio") (He.ga K "InvalidNumber")) := ⟨_, fd12, ok_Ratio___neg__ F12 cmx2_Ratio, me_neg.at_, me_neg.fn, F12.bindsN fun _ _ _ _ _ _ us hl => match us, hl with | [_], _ => rfl⟩
  have me_rsub := He.meth_ok (c.d.fact 27 (f := .meth "Ratio" "__rsub__") rfl)
  have co_rsub : CalO P w K mg base CX0 6 (He.ga K "Ratio") "__rsub__" (spRsub K (He.ga K "Ratio") (He.ga K "InvalidNumber")) := ⟨_, fd13, ok_Ratio___rsub__ F13 cs_neg co_add oc_R on_add, me_rsub.at_, me_rsub.fn, F13.bindsN fun _ _ _ _ _ _ us hl => match us, hl with | [_, _], _ => rfl⟩
  have me_mul := He.meth_ok (c.d.fact 28 (f := .meth "Ratio" "__mul__") rfl)
  have co_mul : CalO P w K mg base CX0 5 (He.ga K "Ratio") "__mul__" (spMul K (He.ga K "Ratio")) := ⟨_, fd14, ok_Ratio___mul__ F14 c_as_ratio cm2_Ratio, me_mul.at_, me_mul.fn, F14.bindsN fun _ _ _ _ _ _ us hl => match us, hl with | [_, _], _ => rfl⟩
  have me_rmul := He.meth_ok (c.d.fact 29 (f := .meth "Ratio" "__rmul__") rfl)
  have co_rmul : CalO P w K mg base CX0 6 (He.ga K "Ratio") "__rmul__" (spRmul K (He.ga K "Ratio")) := ⟨_, fd15, ok_Ratio___rmul__ F15 co_mul oc_R on_mul, me_rmul.at_, me_rmul.fn, F15.bindsN fun _ _ _ _ _ _ us hl => match us, hl with | [_, _], _ => rfl⟩
  have me_rrepr := He.meth_ok (c.d.fact 30 (f := .meth "Ratio" "__repr__") rfl)
  have cuc_repr : CalUC P w K mg base 1 (He.ga K "Ratio") "__repr__" (spRRepr K (He.ga K "Ratio")) := ⟨_, fd16, ok_Ratio___repr__ F16 , me_rrepr.at_, me_rrepr.fn, F16.bindsN fun _ _ _ _ _ _ us hl => match us, hl with | [_], _ => rfl⟩
  have c__law_pool : Cal P w K mg base CX0 1 "_law_pool" ["_law_script", "_law_k"] (RvM.spPool K) := ⟨_, fd17, ok__law_pool F17 m_int, He.glo_ok X G (c.d.fact 31 (f := .glo "_law_pool") rfl), F17.kp, F17.bindsN fun _ _ _ _ _ _ us hl => match us, hl with | [_, _], _ => rfl⟩
  have c__law_take : Cal P w K mg base CX0 1 "_law_take" ["_law_pool_here", "_law_many"] (RvM.spTake K) := ⟨_, fd18, ok__law_take F18 , He.glo_ok X G (c.d.fact 32 (f := .glo "_law_take") rfl), F18.kp, F18.bindsN fun _ _ _ _ _ _ us hl => match us, hl with | [_, _], _ => rfl⟩
  have c__law_whole : Cal P w K mg base CX0 2 "_law_whole" ["_law_pool_here"] (spLWhole02 K) := ⟨_, fd19, ok__law_whole F19 c__law_take, He.glo_ok X G (c.d.fact 33 (f := .glo "_law_whole") rfl), F19.kp, F19.bindsN fun _ _ _ _ _ _ us hl => match us, hl with | [_], _ => rfl⟩
  have c__law_is : Cal P w K mg base CX0 3 "_law_is" ["_law_ratio", "_law_top", "_law_bottom"] (spIs02 K (He.ga K "Ratio")) := ⟨_, fd20, ok__law_is F20 g_Ratio m_isinstance cp_top cp_bottom, He.glo_ok X G (c.d.fact 34 (f := .glo "_law_is") rfl), F20.kp, F20.bindsN fun _ _ _ _ _ _ us hl => match us, hl with | [_, _, _], _ => rfl⟩
  have c__law_said : CalG P w K mg base CX0 7 "_law_said" ["_law_one", "_law_two"] (spSaid02 K (He.ga K "Ratio") (He.ga K "InvalidNumber")) := ⟨_, fd21, ok__law_said F21 ct_over xf_InvalidNumber no_InvalidNumber_value cuc_repr m_repr g_InvalidNumber, He.glo_ok X G (c.d.fact 35 (f := .glo "_law_said") rfl), F21.kp, F21.bindsN fun _ _ _ _ _ _ us hl => match us, hl with | [_, _], _ => rfl⟩
  have c__law_right : Cal P w K mg base CX0 7 "_law_right" ["_law_one", "_law_two", "_law_a", "_law_b", "_law_c", "_law_d"] (spRight02 K (He.ga K "Ratio") (He.ga K "InvalidNumber")) := ⟨_, fd22, ok__law_right F22 co_add co_radd oc_R on_add su_R c__law_is co_sub co_rsub on_sub co_mul co_rmul on_mul g_Ratio m_isinstance ct_over, He.glo_ok X G (c.d.fact 36 (f := .glo "_law_right") rfl), F22.kp, F22.bindsN fun _ _ _ _ _ _ us hl => match us, hl with | [_, _, _, _, _, _], _ => rfl⟩
  exact ok_law F23 m_len m_min m_max m_range c__law_pool c__law_whole c__law_take cm2_Ratio cuc_repr m_repr c__law_right cm1_Ratio c__law_said ck_over c__law_is co_add co_radd oc_R on_add su_R m_sum
end Rv
open PySem PySem.W PySem.Calls PyProof.Rows
theorem PySem.Challenge.cw_rainvalleys_k02_fractions_added_and_mult_holds : PySem.Challenge.rw_rainvalleys_k02_fractions_added_and_mult.Holds := by
  w_on; o_law
  refine HandSHeadRun.head_any (r := OpenLaw.row PySem.Challenge.rw_rainvalleys_k02_fractions_added_and_mult) (q := view (OpenLaw.row PySem.Challenge.rw_rainvalleys_k02_fractions_added_and_mult).prog [18]) (H := Rv.hk) (ob := Rv.ob) (M := 8000) (loose := Rv.loose) (d := HandSHeadRun.topDef (OpenLaw.row PySem.Challenge.rw_rainvalleys_k02_fractions_added_and_mult).prog 18) (kwd := []) Rv.ob_eq
    (by kernel_rfl) (fun s => by kernel_rfl) Rv.run (by kernel_rfl) (by kernel_rfl) (by kernel_rfl) (by rfl) (by first | assumption | decide +kernel) (by decide +kernel) ⟨rfl, rfl, rfl, rfl, rfl, by decide +kernel⟩ ?hw ?hc
  case hw => w_witness2
  case hc =>
    refine Rv.walk_ofG (l := PySem.Challenge.rw_rainvalleys_k02_fractions_added_and_mult) (n := 63) (k := 9) (x := "_law_script") (CX := L2.CX0) rfl (by decide) (by kernel_rfl) ⟨rfl, by decide, by decide⟩ ?F (fun _ _ _ _ z => z)
    intro w mg fa h Y G hmg0
    obtain ⟨K, KX, c⟩ := Y
    have hmg : mg ("law" : PySem.Str) = some (.ref fa) := by
      have e : (HandSHeadRun.topDef (OpenLaw.row PySem.Challenge.rw_rainvalleys_k02_fractions_added_and_mult).prog 18).name = ("law" : PySem.Str) := by kernel_rfl
      rw [← e]
      exact hmg0
    obtain ⟨fd, hb, sd, hF⟩ := Rv.facts (P := (PySem.Challenge.rw_rainvalleys_k02_fractions_added_and_mult).prog) (w := w) KX G hmg c
    exact ⟨K, fd, _, KX, hb, fun H a ns hl hO hS => ⟨a, ns, rfl, hl, hS, sd.1, sd.2.1, sd.2.2.1, sd.2.2.2.1, sd.2.2.2.2, fun _ => rfl⟩, hF⟩

