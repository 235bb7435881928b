import PyProof.Rows.All
import Wide.All
import OpenK.AllK
import Wide.FinOn
import KE.KStateDown
import HandS.ForMost
import HandS.ForExc
import HandS.Defaults
import HandS.Property
import HandS.MakeKw
import HandS.IsInst
import HandS.Flow
import HandS.Style
import HandS.Wide
import HandS.OwnEq
import HandS.Conv
import HandS.Deep
import HandS.Head0
import HandS.Head1
import HandS.Head2
import HandS.HeadEnd
import HandS.HeadHook1
import HandS.HeadHook2
import KE.GoesMore
import OpenK.KOps
import KE.KOpsOwn
import HandS.MakeKwOnly
import HandS.FStr
import HandS.List
import HandS.TupAny
import HandS.More
import HandS.ExcInit
import KE.KExcInit
import HandS.Exc
import HandS.ExcOwn
import HandS.ExcIs
import HandS.ExcField
import KE.KExcIs
import HandS.HotCalls
import HandS.Dict
import KE.KCallOwn
import PyProof.Conv_bool
import PyProof.Rows.FactsN_abs
import HandS.Zip
import PySem.Challenge.RW_rainvalleys_k01_fractions_in_lowest_term
set_option Elab.async false
set_option linter.all false
set_option maxRecDepth 100000
set_option maxHeartbeats 4000000
/-! Words of this proof: operators on values by short names, the steps of a reading, what a call of a def asks. -/
namespace Rv
open PySem PySem.Spec PyProof.Rows L2
abbrev cInt : List V → Hp → VK → Prop := fun xs H Q => (∃ i, xs = [.int i] ∧ Q (.int i) H) ∨ ∃ k, xs = [.bl k] ∧ Q (.int (if k then 1 else 0)) H
abbrev cAbs : List V → Hp → VK → Prop := fun xs H Q => ∃ i, xs = [.int i] ∧ Q (.int (if i < 0 then -i else i)) H
section
variable {K : PySem.W.Frag} {σ : L2.St} {H : Hp} {Q : VK} {D : Ends} {v x y : V} {i j : Int} {n : Nat} {ta tb te to ti : TE} {t u c : TT} {tr : TA} {b : Bool} {r : R2} {s1 s2 : TS} {g : TG} {p : Addr} {xs : List V} {TQ : Bool → Hp → Prop} {AQ : List V → Hp → Prop} {HQ : Hp → Prop} {GQ : L2.St → Hp → Prop}
theorem w_var (h : σ[n]? = some (some v)) (q : Q v H) : tVar n σ H Q := ⟨v, h, q⟩
theorem w_c (q : Q v H) : tC v σ H Q := q
theorem w_op (q : ta σ H fun x H1 => tb σ H1 fun y H2 => r x y H2 Q) : tOp r ta tb σ H Q := q
theorem w_un {r : V → Hp → VK → Prop} (q : ta σ H fun x H1 => r x H1 Q) : tUn r ta σ H Q := q
theorem w_U {g : Int → V} (q : Q (g i) H) : rU g (.int i) H Q := ⟨i, rfl, q⟩
theorem w_test (q : ta σ H fun x H' => ∃ k, x = .bl k ∧ TQ k H') : tTest ta σ H TQ := q
theorem w_tB (q : ta σ H fun x H' => ∃ k, x = .bl k ∧ TQ k H') : tB ta σ H TQ := q
theorem w_bl (q : TQ b H) : ∃ k, V.bl b = .bl k ∧ TQ k H := ⟨b, rfl, q⟩
theorem w_I0 {g : Int → Int → V} (q : Q (g i j) H) : rI0 g (.int i) (.int j) H Q := ⟨i, j, rfl, rfl, q⟩
theorem w_I {C : Int → Int → Prop} {g : Int → Int → V} (hc : C i j) (q : Q (g i j) H) : rI C g (.int i) (.int j) H Q := ⟨i, j, rfl, rfl, hc, q⟩
theorem w_eqI (q : Q (.bl (decide (i = j))) H) : rEq (.int i) (.int j) H Q := ⟨rfl, by
  have e : decide (V.int i = V.int j) = decide (i = j) := by
    by_cases h : i = j
    · rw [h, decide_eq_true rfl, decide_eq_true rfl]
    · rw [decide_eq_false h, decide_eq_false (fun z => h (V.int.inj z))]
  rw [e]
  exact q⟩
theorem w_neI (q : Q (.bl (!decide (i = j))) H) : rNe (.int i) (.int j) H Q := ⟨rfl, by
  have e : decide (V.int i = V.int j) = decide (i = j) := by
    by_cases h : i = j
    · rw [h, decide_eq_true rfl, decide_eq_true rfl]
    · rw [decide_eq_false h, decide_eq_false (fun z => h (V.int.inj z))]
  rw [e]
  exact q⟩
theorem w_cons (q : ta σ H fun x H1 => tr σ H1 fun xs H2 => AQ (x :: xs) H2) : tCons ta tr σ H AQ := q
theorem w_nil (q : AQ [] H) : tNil σ H AQ := q
theorem w_seqA (q : te σ H fun x H1 => g x σ H1 (s2 D)) : tSeq (tAsg te g) s2 D σ H := q
theorem w_seqD (q : te σ H fun _ H1 => s2 D σ H1) : tSeq (tDrop te) s2 D σ H := q
theorem w_seqP {m : Nat} (q : tr σ H fun vs H1 => ∃ v w, vs = [v, w] ∧ s2 D ((σ.set n (some v)).set m (some w)) H1) : tSeq (tPar n m tr) s2 D σ H := q
theorem w_next (q : D.nx σ H) : tNext D σ H := q
theorem w_asg (q : te σ H fun x H1 => g x σ H1 D.nx) : tAsg te g D σ H := q
theorem w_gn (q : GQ (σ.set n (some v)) H) : gName n v σ H GQ := q
theorem w_gsub {s : TSet} (q : to σ H fun o H1 => ti σ H1 fun i H2 => s o i v H2 fun H3 => GQ σ H3) : gSub to ti s v σ H GQ := q
theorem w_ret (q : te σ H D.rt) : tRet te D σ H := q
theorem w_drop (q : te σ H fun _ H1 => D.nx σ H1) : tDrop te D σ H := q
theorem w_ifs (q : c σ H fun b H1 => if b = true then s1 D σ H1 else s2 D σ H1) : tIfS c s1 s2 D σ H := q
theorem w_if (q : c σ H fun b H1 => if b = true then ta σ H1 Q else tb σ H1 Q) : tIf c ta tb σ H Q := q
theorem w_and (q : t σ H fun c H1 => if c = true then u σ H1 TQ else TQ false H1) : tAnd t u σ H TQ := q
theorem w_or (q : t σ H fun c H1 => if c = true then TQ true H1 else u σ H1 TQ) : tOr t u σ H TQ := q
theorem w_not (q : t σ H fun c H1 => TQ (!c) H1) : tNot t σ H TQ := q
theorem w_andV (q : ta σ H fun x H1 => ∃ c, x = .bl c ∧ if c = true then tb σ H1 Q else Q (.bl false) H1) : tAndV ta tb σ H Q := q
theorem w_orV (q : ta σ H fun x H1 => ∃ c, x = .bl c ∧ if c = true then Q (.bl true) H1 else tb σ H1 Q) : tOrV ta tb σ H Q := q
theorem w_notV (q : ta σ H fun x H1 => ∃ c, x = .bl c ∧ Q (.bl (!c)) H1) : tNotV ta σ H Q := q
theorem w_ixL (h : SqL K H p xs) (ha : atI xs i = some v) (q : Q v H) : rIxL K (.ref p) (.int i) H Q := ⟨p, xs, i, v, rfl, rfl, h, ha, q⟩
theorem w_cb {r : List V → Hp → VK → Prop} (q : tr σ H fun vs H1 => r vs H1 Q) : tCB r tr σ H Q := q
theorem w_intB (q : Q (.int (if b then 1 else 0)) H) : cInt [.bl b] H Q := .inr ⟨b, rfl, q⟩
theorem w_intI (q : Q (.int i) H) : cInt [.int i] H Q := .inl ⟨i, rfl, q⟩
theorem w_abs (q : Q (.int (if i < 0 then -i else i)) H) : cAbs [.int i] H Q := ⟨i, rfl, q⟩
theorem w_call {sp : Sp} {dvs : List V} {E : XK} (q : tr σ H fun vs H1 => sp (vs ++ dvs) H1 Q E) : tCall sp dvs E tr σ H Q := q
theorem w_lst (q : tr σ H fun xs H1 => xs.length ≤ sizeLine ∧ ∀ p, H1 p = none → Q (.ref p) (upd H1 p (.lst xs))) : tLst tr σ H Q := q
theorem w_tup (q : tr σ H fun xs H1 => xs.length ≤ sizeLine ∧ ∀ p, H1 p = none → Q (.ref p) (upd H1 p (.tup xs))) : tTup tr σ H Q := q
theorem w_par {m : Nat} (q : tr σ H fun vs H1 => ∃ v w, vs = [v, w] ∧ D.nx ((σ.set n (some v)).set m (some w)) H1) : tPar n m tr D σ H := q
theorem w_sl {r : V → Option Int → Option Int → Hp → VK → Prop} {tl th : TO} (q : te σ H fun x H1 => tl σ H1 fun l H2 => th σ H2 fun u H3 => r x l u H3 Q) : tSl r te tl th σ H Q := q
theorem w_noPart {OQ : Option Int → Hp → Prop} (q : OQ none H) : tNoPart σ H OQ := q
theorem w_part {OQ : Option Int → Hp → Prop} (q : te σ H fun x H1 => ∃ i, x = .int i ∧ OQ (some i) H1) : tPart te σ H OQ := q
theorem w_ex1 {P : Int → Prop} (q : P i) : ∃ j, V.int i = .int j ∧ P j := ⟨i, rfl, q⟩
theorem w_exb {P : Bool → Prop} (q : P b) : ∃ j, V.bl b = .bl j ∧ P j := ⟨b, rfl, q⟩
theorem w_nx {f : L2.St → Hp → Prop} {r : VK} {k c : L2.St → Hp → Prop} {σ : L2.St} {H : Hp} (q : f σ H) : Ends.nx ⟨f, r, k, c⟩ σ H := q
theorem w_rt {f : L2.St → Hp → Prop} {r : VK} {k c : L2.St → Hp → Prop} {v : V} {H : Hp} (q : r v H) : Ends.rt ⟨f, r, k, c⟩ v H := q
theorem w_yes {TQ : Bool → Hp → Prop} {σ : L2.St} {H : Hp} (q : TQ true H) : tYes σ H TQ := q
theorem iteNT {A B : Prop} (h : B) : if (!true) = true then A else B := iteF h
theorem iteNF {A B : Prop} (h : A) : if (!false) = true then A else B := iteT h
theorem iteRf {α : Type} [DecidableEq α] {z : α} {A B : Prop} (h : A) : if decide (z = z) = true then A else B := by
  rw [decide_eq_true rfl]
  exact iteT h
theorem iteNRf {α : Type} [DecidableEq α] {z : α} {A B : Prop} (h : B) : if (!decide (z = z)) = true then A else B := by
  rw [decide_eq_true rfl]
  exact iteF h
end
theorem pow_c {i j : Int} (h : 0 ≤ j) (h2 : j ≤ 1000000) (h3 : -18446744073709551616 < i) (h4 : i < 18446744073709551616) : CPow i j := ⟨h, h2, by
  have e : (2 : Nat) ^ 64 = 18446744073709551616 := by decide
  omega⟩
theorem mul_l {i j : Int} (h3 : -18446744073709551616 < i) (h4 : i < 18446744073709551616) : CMul i j := .inl ⟨by
  have e : (2 : Int) ^ 64 = 18446744073709551616 := by decide
  omega, by
  have e : (2 : Int) ^ 64 = 18446744073709551616 := by decide
  omega⟩
theorem mul_r {i j : Int} (h3 : -18446744073709551616 < j) (h4 : j < 18446744073709551616) : CMul i j := .inr ⟨by
  have e : (2 : Int) ^ 64 = 18446744073709551616 := by decide
  omega, by
  have e : (2 : Int) ^ 64 = 18446744073709551616 := by decide
  omega⟩
/-- all that H tracked, but the object at d, stands as it was -/
def But (d : Addr) (H H' : Hp) : Prop := ∀ b o, b ≠ d → H b = some o → H' b = some o
theorem But.free {d : Addr} {H H' : Hp} (e : But d H H') {l : Addr} (n : l ≠ d) (h : H' l = none) : H l = none := by
  cases q : H l with
  | none => rfl
  | some o =>
    rw [e l o n q] at h
    cases h
theorem sq_lst {K : PySem.W.Frag} {H : Hp} {a : Addr} {xs : List V} (h : H a = some (.lst xs)) : SqL K H a xs := .inl (.inl h)
end Rv
namespace Rv
open PySem PySem.Spec PyProof.Rows L2
end Rv
namespace Rv
open PySem PySem.Spec PyProof.Rows L2
end Rv
namespace Rv
open PySem PySem.Spec PyProof.Rows L2
end Rv
namespace Rv
open PySem PySem.Spec PyProof.Rows L2
/-! what the top leaves behind, beyond defs and methods: properties, an own ==, getters -/
def prA (K : PySem.W.Frag) (x f : Str) : Addr := He.ma K (He.ga K x) f
def gtA (K : PySem.W.Frag) (x f : Str) : Addr := match PySem.W.recIn K (prA K x f) "property" with
  | some (.ref g :: _) => g
  | _ => 0
def prB (K : PySem.W.Frag) (x f : Str) : Bool := He.eqO (PySem.W.findIn K (.ref (He.ga K x)) f) (some (some (.ref (prA K x f)))) &&
  (He.eqO (PySem.W.specialIn K (.ref (prA K x f)) "__get__") (some (some (.builtin "property.__get__"))) && (decide (PySem.W.takesIn K (.ref (prA K x f)) = some true) &&
    (match PySem.W.recIn K (prA K x f) "property" with
      | some (.ref _ :: _) => true
      | _ => false)))
/-- the class x has no __class__ of its own -/
def clB (K : PySem.W.Frag) (x : Str) : Bool := He.eqO (PySem.W.findIn K (.ref (He.ga K x)) "__class__") (some (some (.builtin "object.__class__"))) &&
  (He.eqO (PySem.W.specialIn K (.builtin "object.__class__") "__get__") (some (some (.builtin "getset_descriptor.__get__"))) && (decide (PySem.W.takesIn K (.builtin "object.__class__") = some true) && decide (PySem.W.mroIn K (He.ga K x) (.type "object") = some true)))
/-- the text of a function at an address -/
def txt (K : PySem.W.Frag) (a : Addr) : He.FnW := match K.lookup a with
  | some o => (match o.data with
    | .func z => some (z.name, z.qualname, z.params, z.body, z.scope, z.globals, z.closure, z.builtins)
    | _ => none)
  | none => none
def isNn : Value → Bool
  | .none => true
  | _ => false
def txB (K : PySem.W.Frag) (a : Addr) (q : Str) : Bool := PySem.W.keepIn K (.ref a) && (match K.lookup a with
  | some o => (match o.data with
    | .func z => PySem.W.codeIn K z.code q && isNn z.defaults
    | _ => false)
  | none => false)
/-- a getter: its class, the property's name, its function's text -/
structure Gt where
  cl : Str
  pr : Str
  qual : Str
  params : Arguments
  body : List Stmt
  scope : Scope
def Gt.val (g : Gt) : He.FnW := some (g.pr, g.qual, g.params, .stmts g.body, g.scope, mainGlobals, [], builtinsNs)
/-! the hook: facts, defs, getters, one more test -/
abbrev AlR : Type := He.AlD × (Bool × List He.FnW)
def obsR (fa : List He.Fa) (fn : List He.DefD) (gs : List Gt) (ex : PySem.W.Frag → Bool) (K : PySem.W.Frag) : AlR :=
  (He.obsD fa fn K, (ex K && gs.all fun g => txB K (gtA K g.cl g.pr) g.qual, gs.map fun g => txt K (gtA K g.cl g.pr)))
def valR (fn : List He.DefD) (gs : List Gt) : AlR := (He.valD fn, (true, gs.map Gt.val))
def SaysR (fa : List He.Fa) (fn : List He.DefD) (gs : List Gt) (ex : PySem.W.Frag → Bool) (K : PySem.W.Frag) : Prop := obsR fa fn gs ex K = valR fn gs
end Rv
namespace Rv
open PySem PySem.Spec PyProof.Rows L2
/-! the hook with the addresses said -/
def obsRL (as : List Addr) (fa : List He.Fa) (fn : List He.DefD) (gs : List Gt) (ex : PySem.W.Frag → Bool) (g : Addr → Option Obj) : AlR := obsR fa fn gs ex (He.frG g as)
def hookL (as : List Addr) (fa : List He.Fa) (fn : List He.DefD) (gs : List Gt) (ex : PySem.W.Frag → Bool) : PySem.W.Hook where
  α := AlR
  obs := fun s => obsRL as fa fn gs ex s.heap.get?
  val := fun _ => valR fn gs
  says := fun _ h => ∃ K : PySem.W.Frag, K.In h ∧ SaysR fa fn gs ex K
  of := fun _ _ e => ⟨_, He.frG_in, e⟩
  keeps := fun _ _ _ ⟨K, hK, c⟩ k => ⟨K, PySem.W.Frag.In.keeps hK k, c⟩
theorem obsRL_eq {as : List Addr} {fa : List He.Fa} {fn : List He.DefD} {gs : List Gt} {ex : PySem.W.Frag → Bool} {g : Addr → Option Obj} {s : Shared} (h : ∀ a, g a = s.heap.get? a) : obsRL as fa fn gs ex g = (hookL as fa fn gs ex).obs s := by
  have e : g = s.heap.get? := funext h
  rw [e] <;> rfl
end Rv
namespace Rv
open PySem PySem.Spec PyProof.Rows L2
/-! ### the law's draws: a list of the cells, a place, a number in use, a seed -/
theorem divw {i j : Int} (h : 0 < j) (hb : j < 2 ^ 200) : CDivW i j := by
  refine wide_div (b := 201) h ?_ (by decide) (by decide)
  have e : (2 : Int) ^ 200 = ((2 ^ 200 : Nat) : Int) := rfl
  have e2 : (2 ^ 200 : Nat) < 2 ^ 201 := by decide
  omega
local macro_rules | `(tactic| walk_at "rv st") => `(tactic| first
  | with_reducible refine iteT ?_ | with_reducible refine iteF ?_ | with_reducible refine w_nx ?_ | with_reducible refine w_yes ?_ | with_reducible refine w_rt ?_ | with_reducible refine iteNT ?_ | with_reducible refine iteNF ?_ | with_reducible refine iteNRf ?_ | with_reducible refine iteRf ?_ | with_reducible refine w_seqA ?_ | with_reducible refine w_seqD ?_ | with_reducible refine w_seqP ?_ | with_reducible refine w_asg ?_ | with_reducible refine w_ret ?_ | with_reducible refine w_drop ?_ | with_reducible refine w_ifs ?_ | with_reducible refine w_next ?_ | with_reducible refine w_par ?_
  | with_reducible refine w_op ?_ | with_reducible refine w_un ?_ | ((with_reducible show tVar _ _ _ _); refine' w_var ?hv ?_; (case hv => exact rfl)) | with_reducible refine w_c ?_ | with_reducible refine w_test ?_ | with_reducible refine w_tB ?_
  | with_reducible refine w_bl ?_ | with_reducible refine w_I0 ?_ | with_reducible refine w_U ?_ | with_reducible refine w_eqI ?_ | with_reducible refine w_neI ?_
  | with_reducible refine w_cons ?_ | with_reducible refine w_nil ?_ | with_reducible refine w_gn ?_ | with_reducible refine w_gsub ?_ | with_reducible refine w_and ?_ | with_reducible refine w_or ?_ | with_reducible refine w_not ?_
  | with_reducible refine w_andV ?_ | with_reducible refine w_orV ?_ | with_reducible refine w_notV ?_ | with_reducible refine w_if ?_ | with_reducible refine w_cb ?_ | with_reducible refine w_call ?_ | with_reducible refine w_lst ?_ | with_reducible refine w_tup ?_
  | with_reducible refine w_sl ?_ | with_reducible refine w_noPart ?_ | with_reducible refine w_part ?_ | with_reducible refine w_ex1 ?_ | with_reducible refine w_exb ?_ | with_reducible refine w_intB ?_ | with_reducible refine w_intI ?_ | with_reducible refine w_abs ?_)
local macro_rules | `(tactic| walk_at "rv ix") => `(tactic| ((with_reducible show rIxL _ _ _ _ _); refine' w_ixL (sq_lst ?ha) ?hb ?_; (case ha => first | exact upd_same | assumption); (case hb => first | exact rfl | assumption)))
local macro_rules | `(tactic| walk_at "rv ar") => `(tactic| first
  | (refine' w_I ?hc ?_; (case hc => first | (show (0 : Int) < _; first | assumption | decide | omega) | exact pow_c (by decide) (by decide) (by first | decide | omega) (by first | decide | omega) | exact mul_r (by first | decide | omega) (by first | decide | omega) | exact mul_l (by first | decide | omega) (by first | decide | omega) | exact divw (by first | assumption | decide | omega) (by first | assumption | decide | omega))))
local macro_rules | `(tactic| walk_at "rv go") => `(tactic| repeat first | walk_at "rv st" | walk_at "rv ix" | ((with_reducible show rI _ _ _ _ _ _); walk_at "rv ar"))
end Rv
/-! enumerate of a tuple, and of a list or a tuple. -/
namespace PySem
open Sem (wp)
open AutoSeq1 (wpAny_loadPart')
end PySem
namespace Rv
open PySem PySem.Spec PyProof.Rows L2
end Rv
namespace Rv
open PySem PySem.Spec PyProof.Rows L2
/-! values: is it an integer -/
local macro_rules | `(tactic| walk_at "rv st") => `(tactic| first
  | with_reducible refine iteT ?_ | with_reducible refine iteF ?_ | with_reducible refine w_nx ?_ | with_reducible refine w_yes ?_ | with_reducible refine w_rt ?_ | with_reducible refine iteNT ?_ | with_reducible refine iteNF ?_ | with_reducible refine iteNRf ?_ | with_reducible refine iteRf ?_ | with_reducible refine w_seqA ?_ | with_reducible refine w_seqD ?_ | with_reducible refine w_seqP ?_ | with_reducible refine w_asg ?_ | with_reducible refine w_ret ?_ | with_reducible refine w_drop ?_ | with_reducible refine w_ifs ?_ | with_reducible refine w_next ?_ | with_reducible refine w_par ?_
  | with_reducible refine w_op ?_ | with_reducible refine w_un ?_ | ((with_reducible show tVar _ _ _ _); refine' w_var ?hv ?_; (case hv => exact rfl)) | with_reducible refine w_c ?_ | with_reducible refine w_test ?_ | with_reducible refine w_tB ?_
  | with_reducible refine w_bl ?_ | with_reducible refine w_I0 ?_ | with_reducible refine w_U ?_ | with_reducible refine w_eqI ?_ | with_reducible refine w_neI ?_
  | with_reducible refine w_cons ?_ | with_reducible refine w_nil ?_ | with_reducible refine w_gn ?_ | with_reducible refine w_gsub ?_ | with_reducible refine w_and ?_ | with_reducible refine w_or ?_ | with_reducible refine w_not ?_
  | with_reducible refine w_andV ?_ | with_reducible refine w_orV ?_ | with_reducible refine w_notV ?_ | with_reducible refine w_if ?_ | with_reducible refine w_cb ?_ | with_reducible refine w_call ?_ | with_reducible refine w_lst ?_ | with_reducible refine w_tup ?_
  | with_reducible refine w_sl ?_ | with_reducible refine w_noPart ?_ | with_reducible refine w_part ?_ | with_reducible refine w_ex1 ?_ | with_reducible refine w_exb ?_ | with_reducible refine w_intB ?_ | with_reducible refine w_intI ?_ | with_reducible refine w_abs ?_)
local macro_rules | `(tactic| walk_at "rv ix") => `(tactic| ((with_reducible show rIxL _ _ _ _ _); refine' w_ixL (sq_lst ?ha) ?hb ?_; (case ha => first | exact upd_same | assumption); (case hb => first | exact rfl | assumption)))
local macro_rules | `(tactic| walk_at "rv ar") => `(tactic| first
  | (refine' w_I ?hc ?_; (case hc => first | (show (0 : Int) < _; first | assumption | decide | omega) | exact pow_c (by decide) (by decide) (by first | decide | omega) (by first | decide | omega) | exact mul_r (by first | decide | omega) (by first | decide | omega) | exact mul_l (by first | decide | omega) (by first | decide | omega) | exact divw (by first | assumption | decide | omega) (by first | assumption | decide | omega))))
local macro_rules | `(tactic| walk_at "rv go") => `(tactic| repeat first | walk_at "rv st" | walk_at "rv ix" | ((with_reducible show rI _ _ _ _ _ _); walk_at "rv ar"))
end Rv
/-! Operators, comparisons and len of instances of a class with its own defs for them. -/
namespace Rv
open PySem PySem.Spec PyProof.Rows L2
end Rv
namespace Rv
open PySem PySem.Spec PyProof.Rows L2
/-! fractions in the heap -/
local macro_rules | `(tactic| walk_at "rv st") => `(tactic| first
  | with_reducible refine iteT ?_ | with_reducible refine iteF ?_ | with_reducible refine w_nx ?_ | with_reducible refine w_yes ?_ | with_reducible refine w_rt ?_ | with_reducible refine iteNT ?_ | with_reducible refine iteNF ?_ | with_reducible refine iteNRf ?_ | with_reducible refine iteRf ?_ | with_reducible refine w_seqA ?_ | with_reducible refine w_seqD ?_ | with_reducible refine w_seqP ?_ | with_reducible refine w_asg ?_ | with_reducible refine w_ret ?_ | with_reducible refine w_drop ?_ | with_reducible refine w_ifs ?_ | with_reducible refine w_next ?_ | with_reducible refine w_par ?_
  | with_reducible refine w_op ?_ | with_reducible refine w_un ?_ | ((with_reducible show tVar _ _ _ _); refine' w_var ?hv ?_; (case hv => exact rfl)) | with_reducible refine w_c ?_ | with_reducible refine w_test ?_ | with_reducible refine w_tB ?_
  | with_reducible refine w_bl ?_ | with_reducible refine w_I0 ?_ | with_reducible refine w_U ?_ | with_reducible refine w_eqI ?_ | with_reducible refine w_neI ?_
  | with_reducible refine w_cons ?_ | with_reducible refine w_nil ?_ | with_reducible refine w_gn ?_ | with_reducible refine w_gsub ?_ | with_reducible refine w_and ?_ | with_reducible refine w_or ?_ | with_reducible refine w_not ?_
  | with_reducible refine w_andV ?_ | with_reducible refine w_orV ?_ | with_reducible refine w_notV ?_ | with_reducible refine w_if ?_ | with_reducible refine w_cb ?_ | with_reducible refine w_call ?_ | with_reducible refine w_lst ?_ | with_reducible refine w_tup ?_
  | with_reducible refine w_sl ?_ | with_reducible refine w_noPart ?_ | with_reducible refine w_part ?_ | with_reducible refine w_ex1 ?_ | with_reducible refine w_exb ?_ | with_reducible refine w_intB ?_ | with_reducible refine w_intI ?_ | with_reducible refine w_abs ?_)
local macro_rules | `(tactic| walk_at "rv ix") => `(tactic| ((with_reducible show rIxL _ _ _ _ _); refine' w_ixL (sq_lst ?ha) ?hb ?_; (case ha => first | exact upd_same | assumption); (case hb => first | exact rfl | assumption)))
local macro_rules | `(tactic| walk_at "rv ar") => `(tactic| first
  | (refine' w_I ?hc ?_; (case hc => first | (show (0 : Int) < _; first | assumption | decide | omega) | exact pow_c (by decide) (by decide) (by first | decide | omega) (by first | decide | omega) | exact mul_r (by first | decide | omega) (by first | decide | omega) | exact mul_l (by first | decide | omega) (by first | decide | omega) | exact divw (by first | assumption | decide | omega) (by first | assumption | decide | omega))))
local macro_rules | `(tactic| walk_at "rv go") => `(tactic| repeat first | walk_at "rv st" | walk_at "rv ix" | ((with_reducible show rI _ _ _ _ _ _); walk_at "rv ar"))
end Rv
/-! The head's tests of the classes Profile and Ratio. -/
namespace Rv
open PySem PySem.Spec PyProof.Rows L2
def kiB (K : PySem.W.Frag) (x : Str) : Bool := decide (PySem.W.kitOne K (.type "int") (.ref (He.ga K x)) = some false)
end Rv
namespace Rv
open PySem PySem.Spec PyProof.Rows L2
local macro_rules | `(tactic| walk_at "rv st") => `(tactic| first
  | with_reducible refine iteT ?_ | with_reducible refine iteF ?_ | with_reducible refine w_nx ?_ | with_reducible refine w_yes ?_ | with_reducible refine w_rt ?_ | with_reducible refine iteNT ?_ | with_reducible refine iteNF ?_ | with_reducible refine iteNRf ?_ | with_reducible refine iteRf ?_ | with_reducible refine w_seqA ?_ | with_reducible refine w_seqD ?_ | with_reducible refine w_seqP ?_ | with_reducible refine w_asg ?_ | with_reducible refine w_ret ?_ | with_reducible refine w_drop ?_ | with_reducible refine w_ifs ?_ | with_reducible refine w_next ?_ | with_reducible refine w_par ?_
  | with_reducible refine w_op ?_ | with_reducible refine w_un ?_ | ((with_reducible show tVar _ _ _ _); refine' w_var ?hv ?_; (case hv => exact rfl)) | with_reducible refine w_c ?_ | with_reducible refine w_test ?_ | with_reducible refine w_tB ?_
  | with_reducible refine w_bl ?_ | with_reducible refine w_I0 ?_ | with_reducible refine w_U ?_ | with_reducible refine w_eqI ?_ | with_reducible refine w_neI ?_
  | with_reducible refine w_cons ?_ | with_reducible refine w_nil ?_ | with_reducible refine w_gn ?_ | with_reducible refine w_gsub ?_ | with_reducible refine w_and ?_ | with_reducible refine w_or ?_ | with_reducible refine w_not ?_
  | with_reducible refine w_andV ?_ | with_reducible refine w_orV ?_ | with_reducible refine w_notV ?_ | with_reducible refine w_if ?_ | with_reducible refine w_cb ?_ | with_reducible refine w_call ?_ | with_reducible refine w_lst ?_ | with_reducible refine w_tup ?_
  | with_reducible refine w_sl ?_ | with_reducible refine w_noPart ?_ | with_reducible refine w_part ?_ | with_reducible refine w_ex1 ?_ | with_reducible refine w_exb ?_ | with_reducible refine w_intB ?_ | with_reducible refine w_intI ?_ | with_reducible refine w_abs ?_)
local macro_rules | `(tactic| walk_at "rv ix") => `(tactic| ((with_reducible show rIxL _ _ _ _ _); refine' w_ixL (sq_lst ?ha) ?hb ?_; (case ha => first | exact upd_same | assumption); (case hb => first | exact rfl | assumption)))
local macro_rules | `(tactic| walk_at "rv ar") => `(tactic| first
  | (refine' w_I ?hc ?_; (case hc => first | (show (0 : Int) < _; first | assumption | decide | omega) | exact pow_c (by decide) (by decide) (by first | decide | omega) (by first | decide | omega) | exact mul_r (by first | decide | omega) (by first | decide | omega) | exact mul_l (by first | decide | omega) (by first | decide | omega) | exact divw (by first | assumption | decide | omega) (by first | assumption | decide | omega))))
local macro_rules | `(tactic| walk_at "rv go") => `(tactic| repeat first | walk_at "rv st" | walk_at "rv ix" | ((with_reducible show rI _ _ _ _ _ _); walk_at "rv ar"))
end Rv
namespace Rv
open PySem PySem.Spec PyProof.Rows L2
local macro_rules | `(tactic| walk_at "rv st") => `(tactic| first
  | with_reducible refine iteT ?_ | with_reducible refine iteF ?_ | with_reducible refine w_nx ?_ | with_reducible refine w_yes ?_ | with_reducible refine w_rt ?_ | with_reducible refine iteNT ?_ | with_reducible refine iteNF ?_ | with_reducible refine iteNRf ?_ | with_reducible refine iteRf ?_ | with_reducible refine w_seqA ?_ | with_reducible refine w_seqD ?_ | with_reducible refine w_seqP ?_ | with_reducible refine w_asg ?_ | with_reducible refine w_ret ?_ | with_reducible refine w_drop ?_ | with_reducible refine w_ifs ?_ | with_reducible refine w_next ?_ | with_reducible refine w_par ?_
  | with_reducible refine w_op ?_ | with_reducible refine w_un ?_ | ((with_reducible show tVar _ _ _ _); refine' w_var ?hv ?_; (case hv => exact rfl)) | with_reducible refine w_c ?_ | with_reducible refine w_test ?_ | with_reducible refine w_tB ?_
  | with_reducible refine w_bl ?_ | with_reducible refine w_I0 ?_ | with_reducible refine w_U ?_ | with_reducible refine w_eqI ?_ | with_reducible refine w_neI ?_
  | with_reducible refine w_cons ?_ | with_reducible refine w_nil ?_ | with_reducible refine w_gn ?_ | with_reducible refine w_gsub ?_ | with_reducible refine w_and ?_ | with_reducible refine w_or ?_ | with_reducible refine w_not ?_
  | with_reducible refine w_andV ?_ | with_reducible refine w_orV ?_ | with_reducible refine w_notV ?_ | with_reducible refine w_if ?_ | with_reducible refine w_cb ?_ | with_reducible refine w_call ?_ | with_reducible refine w_lst ?_ | with_reducible refine w_tup ?_
  | with_reducible refine w_sl ?_ | with_reducible refine w_noPart ?_ | with_reducible refine w_part ?_ | with_reducible refine w_ex1 ?_ | with_reducible refine w_exb ?_ | with_reducible refine w_intB ?_ | with_reducible refine w_intI ?_ | with_reducible refine w_abs ?_)
local macro_rules | `(tactic| walk_at "rv ix") => `(tactic| ((with_reducible show rIxL _ _ _ _ _); refine' w_ixL (sq_lst ?ha) ?hb ?_; (case ha => first | exact upd_same | assumption); (case hb => first | exact rfl | assumption)))
local macro_rules | `(tactic| walk_at "rv ar") => `(tactic| first
  | (refine' w_I ?hc ?_; (case hc => first | (show (0 : Int) < _; first | assumption | decide | omega) | exact pow_c (by decide) (by decide) (by first | decide | omega) (by first | decide | omega) | exact mul_r (by first | decide | omega) (by first | decide | omega) | exact mul_l (by first | decide | omega) (by first | decide | omega) | exact divw (by first | assumption | decide | omega) (by first | assumption | decide | omega))))
local macro_rules | `(tactic| walk_at "rv go") => `(tactic| repeat first | walk_at "rv st" | walk_at "rv ix" | ((with_reducible show rI _ _ _ _ _ _); walk_at "rv ar"))
end Rv
/-! Calls by keywords alone. -/
namespace Rv
open PySem PySem.Spec PyProof.Rows L2
end Rv
/-! Defs that are run where no guard is under way: what repr of lists and tuples asks. -/
namespace Rv
open PySem PySem.Spec PyProof.Rows L2
end Rv
/-! Texts of lists of ints, and of own instances whose def makes a text. -/
namespace Rv
open PySem PySem.Spec PyProof.Rows L2
end Rv
/-! t[::-1] of a tuple. -/
namespace Rv
open PySem PySem.Spec PyProof.Rows L2
end Rv
/-! Comparisons of an int with an instance of an own class: the int declines, the class's own def answers; own comparisons with values of any kind. -/
namespace Rv
open PySem PySem.Spec PyProof.Rows L2
end Rv
/-! Own comparisons with values of any kind, in both orders. -/
namespace Rv
open PySem PySem.Spec PyProof.Rows L2
/-! lowest terms -/
end Rv
/-! != of instances with an own == and no own !=; + of two own instances. -/
namespace PySem.W
open PySem PySem.Spec PyProof.Rows
end PySem.W
namespace Rv
open PySem PySem.Spec PyProof.Rows L2
end Rv
/-! Base.__init__(self, ..) where Base is an own class under ValueError that has no __init__ of its own. -/
namespace Rv
open PySem PySem.Spec PyProof.Rows L2
end Rv
/-! Own exceptions under any base of the standard ones: fields set in __init__. -/
namespace Rv
open PySem PySem.W PySem.Calls PyProof.Rows PySem.HandSPX Builtin Builtin.ObjectAttr
end Rv
namespace Rv
open PySem PySem.Spec PyProof.Rows L2
/-! readings and rules -/
end Rv
/-! A test of the written part: is the class at C such an exception class. -/
namespace Rv
open PySem PySem.Spec PyProof.Rows L2
/-- own classes, then the standard class's mro -/
def tlB (bmB : List Value) : List Value → Bool
  | .ref _ :: r => tlB bmB r
  | l => decide (l = bmB)
def cxB (K : PySem.W.Frag) (C : Addr) (newId : String) (bmB : List Value) : Bool := match K.lookup C with
  | some ⟨.type m, _, .cls z, sl⟩ => decide (m = "type") && (match z.mro, sl.toList with
    | .ref D :: r, [_, _, _, _, some (.builtin n), _] => decide (D = C) && (decide (n = newId) && (!z.hasDel && (z.hasDict && tlB bmB r)))
    | _, _ => false)
  | _ => false
/-- all of it by one test -/
def oxB (K : PySem.W.Frag) (x : Str) (newId : String) (bmB : List Value) : Bool := cxB K (He.ga K x) newId bmB && (He.eqO (PySem.W.findIn K (.ref (He.ga K x)) "__setattr__") (some (some (.builtin "object.__setattr__"))) &&
  (decide (PySem.W.subIn K (.ref (He.ga K x)) (.type "BaseException") = some true) && (decide (PySem.W.typeIn K (.ref (He.ga K x)) = some (.type "type")) && PySem.W.keepIn K (.ref (He.ga K x)))))
/-- an own Base without an __init__ -/
def bgB (K : PySem.W.Frag) (x : Str) (i : String) : Bool := PySem.W.readsIn K (He.ga K x) (.type "type") && (He.eqO (PySem.W.specialIn K (.ref (He.ga K x)) "__getattribute__") (some (some (.builtin "type.__getattribute__"))) &&
  (PySem.W.handedIn (.builtin i) && (match PySem.W.findCls K (.ref (He.ga K x)) (.type "type") "__init__" with
    | some (.val (.builtin n)) => decide (n = i)
    | _ => false)))
end Rv
namespace Rv
open PySem PySem.Spec PyProof.Rows L2
/-! exceptions of own classes: raised in defs, caught in the law -/
/-! .. at the state in which the call stands -/
abbrev bm_ValueError : List Value := [.type "ValueError", .type "Exception", .type "BaseException", .type "object"]
def ecB (K : PySem.W.Frag) (x : Str) : Bool := He.eqO (PySem.W.findIn K (.ref (He.ga K x)) "__getattribute__") (some (some (.builtin "BaseException.__getattribute__"))) && (He.eqO (PySem.W.findIn K (.ref (He.ga K x)) "__getattr__") (some none) &&
  (decide (PySem.W.subIn K (.ref (He.ga K x)) (.type "BaseException") = some true) && (PySem.W.hasDictIn K (He.ga K x) && (He.eqO (PySem.W.findIn K (.ref (He.ga K x)) "__class__") (some (some (.builtin "object.__class__"))) &&
  (He.eqO (PySem.W.specialIn K (.builtin "object.__class__") "__get__") (some (some (.builtin "getset_descriptor.__get__"))) && (decide (PySem.W.takesIn K (.builtin "object.__class__") = some true) && decide (PySem.W.mroIn K (He.ga K x) (.type "object") = some true)))))))
end Rv
namespace Rv
open PySem PySem.Spec PyProof.Rows L2
end Rv
/-! try with several clauses 'except C as n' of one name n. -/
namespace Rv
open PySem PySem.Spec PyProof.Rows L2
end Rv
/-! Own defs that are called while an exception is handled (they raise nothing themselves), and repr there. -/
namespace Rv
open PySem PySem.Spec PyProof.Rows L2 L2H
end Rv
namespace Rv
open PySem PySem.Spec PyProof.Rows L2
local macro_rules | `(tactic| walk_at "rv st") => `(tactic| first
  | with_reducible refine iteT ?_ | with_reducible refine iteF ?_ | with_reducible refine w_nx ?_ | with_reducible refine w_yes ?_ | with_reducible refine w_rt ?_ | with_reducible refine iteNT ?_ | with_reducible refine iteNF ?_ | with_reducible refine iteNRf ?_ | with_reducible refine iteRf ?_ | with_reducible refine w_seqA ?_ | with_reducible refine w_seqD ?_ | with_reducible refine w_seqP ?_ | with_reducible refine w_asg ?_ | with_reducible refine w_ret ?_ | with_reducible refine w_drop ?_ | with_reducible refine w_ifs ?_ | with_reducible refine w_next ?_ | with_reducible refine w_par ?_
  | with_reducible refine w_op ?_ | with_reducible refine w_un ?_ | ((with_reducible show tVar _ _ _ _); refine' w_var ?hv ?_; (case hv => exact rfl)) | with_reducible refine w_c ?_ | with_reducible refine w_test ?_ | with_reducible refine w_tB ?_
  | with_reducible refine w_bl ?_ | with_reducible refine w_I0 ?_ | with_reducible refine w_U ?_ | with_reducible refine w_eqI ?_ | with_reducible refine w_neI ?_
  | with_reducible refine w_cons ?_ | with_reducible refine w_nil ?_ | with_reducible refine w_gn ?_ | with_reducible refine w_gsub ?_ | with_reducible refine w_and ?_ | with_reducible refine w_or ?_ | with_reducible refine w_not ?_
  | with_reducible refine w_andV ?_ | with_reducible refine w_orV ?_ | with_reducible refine w_notV ?_ | with_reducible refine w_if ?_ | with_reducible refine w_cb ?_ | with_reducible refine w_call ?_ | with_reducible refine w_lst ?_ | with_reducible refine w_tup ?_
  | with_reducible refine w_sl ?_ | with_reducible refine w_noPart ?_ | with_reducible refine w_part ?_ | with_reducible refine w_ex1 ?_ | with_reducible refine w_exb ?_ | with_reducible refine w_intB ?_ | with_reducible refine w_intI ?_ | with_reducible refine w_abs ?_)
local macro_rules | `(tactic| walk_at "rv ix") => `(tactic| ((with_reducible show rIxL _ _ _ _ _); refine' w_ixL (sq_lst ?ha) ?hb ?_; (case ha => first | exact upd_same | assumption); (case hb => first | exact rfl | assumption)))
local macro_rules | `(tactic| walk_at "rv ar") => `(tactic| first
  | (refine' w_I ?hc ?_; (case hc => first | (show (0 : Int) < _; first | assumption | decide | omega) | exact pow_c (by decide) (by decide) (by first | decide | omega) (by first | decide | omega) | exact mul_r (by first | decide | omega) (by first | decide | omega) | exact mul_l (by first | decide | omega) (by first | decide | omega) | exact divw (by first | assumption | decide | omega) (by first | assumption | decide | omega))))
local macro_rules | `(tactic| walk_at "rv go") => `(tactic| repeat first | walk_at "rv st" | walk_at "rv ix" | ((with_reducible show rI _ _ _ _ _ _); walk_at "rv ar"))
end Rv
namespace Rv
open PySem PySem.Spec PyProof.Rows L2
local macro_rules | `(tactic| walk_at "rv st") => `(tactic| first
  | with_reducible refine iteT ?_ | with_reducible refine iteF ?_ | with_reducible refine w_nx ?_ | with_reducible refine w_yes ?_ | with_reducible refine w_rt ?_ | with_reducible refine iteNT ?_ | with_reducible refine iteNF ?_ | with_reducible refine iteNRf ?_ | with_reducible refine iteRf ?_ | with_reducible refine w_seqA ?_ | with_reducible refine w_seqD ?_ | with_reducible refine w_seqP ?_ | with_reducible refine w_asg ?_ | with_reducible refine w_ret ?_ | with_reducible refine w_drop ?_ | with_reducible refine w_ifs ?_ | with_reducible refine w_next ?_ | with_reducible refine w_par ?_
  | with_reducible refine w_op ?_ | with_reducible refine w_un ?_ | ((with_reducible show tVar _ _ _ _); refine' w_var ?hv ?_; (case hv => exact rfl)) | with_reducible refine w_c ?_ | with_reducible refine w_test ?_ | with_reducible refine w_tB ?_
  | with_reducible refine w_bl ?_ | with_reducible refine w_I0 ?_ | with_reducible refine w_U ?_ | with_reducible refine w_eqI ?_ | with_reducible refine w_neI ?_
  | with_reducible refine w_cons ?_ | with_reducible refine w_nil ?_ | with_reducible refine w_gn ?_ | with_reducible refine w_gsub ?_ | with_reducible refine w_and ?_ | with_reducible refine w_or ?_ | with_reducible refine w_not ?_
  | with_reducible refine w_andV ?_ | with_reducible refine w_orV ?_ | with_reducible refine w_notV ?_ | with_reducible refine w_if ?_ | with_reducible refine w_cb ?_ | with_reducible refine w_call ?_ | with_reducible refine w_lst ?_ | with_reducible refine w_tup ?_
  | with_reducible refine w_sl ?_ | with_reducible refine w_noPart ?_ | with_reducible refine w_part ?_ | with_reducible refine w_ex1 ?_ | with_reducible refine w_exb ?_ | with_reducible refine w_intB ?_ | with_reducible refine w_intI ?_ | with_reducible refine w_abs ?_)
local macro_rules | `(tactic| walk_at "rv ix") => `(tactic| ((with_reducible show rIxL _ _ _ _ _); refine' w_ixL (sq_lst ?ha) ?hb ?_; (case ha => first | exact upd_same | assumption); (case hb => first | exact rfl | assumption)))
local macro_rules | `(tactic| walk_at "rv ar") => `(tactic| first
  | (refine' w_I ?hc ?_; (case hc => first | (show (0 : Int) < _; first | assumption | decide | omega) | exact pow_c (by decide) (by decide) (by first | decide | omega) (by first | decide | omega) | exact mul_r (by first | decide | omega) (by first | decide | omega) | exact mul_l (by first | decide | omega) (by first | decide | omega) | exact divw (by first | assumption | decide | omega) (by first | assumption | decide | omega))))
local macro_rules | `(tactic| walk_at "rv go") => `(tactic| repeat first | walk_at "rv st" | walk_at "rv ix" | ((with_reducible show rI _ _ _ _ _ _); walk_at "rv ar"))
end Rv
namespace Rv
open PySem PySem.Spec PyProof.Rows L2
local macro_rules | `(tactic| walk_at "rv st") => `(tactic| first
  | with_reducible refine iteT ?_ | with_reducible refine iteF ?_ | with_reducible refine w_nx ?_ | with_reducible refine w_yes ?_ | with_reducible refine w_rt ?_ | with_reducible refine iteNT ?_ | with_reducible refine iteNF ?_ | with_reducible refine iteNRf ?_ | with_reducible refine iteRf ?_ | with_reducible refine w_seqA ?_ | with_reducible refine w_seqD ?_ | with_reducible refine w_seqP ?_ | with_reducible refine w_asg ?_ | with_reducible refine w_ret ?_ | with_reducible refine w_drop ?_ | with_reducible refine w_ifs ?_ | with_reducible refine w_next ?_ | with_reducible refine w_par ?_
  | with_reducible refine w_op ?_ | with_reducible refine w_un ?_ | ((with_reducible show tVar _ _ _ _); refine' w_var ?hv ?_; (case hv => exact rfl)) | with_reducible refine w_c ?_ | with_reducible refine w_test ?_ | with_reducible refine w_tB ?_
  | with_reducible refine w_bl ?_ | with_reducible refine w_I0 ?_ | with_reducible refine w_U ?_ | with_reducible refine w_eqI ?_ | with_reducible refine w_neI ?_
  | with_reducible refine w_cons ?_ | with_reducible refine w_nil ?_ | with_reducible refine w_gn ?_ | with_reducible refine w_gsub ?_ | with_reducible refine w_and ?_ | with_reducible refine w_or ?_ | with_reducible refine w_not ?_
  | with_reducible refine w_andV ?_ | with_reducible refine w_orV ?_ | with_reducible refine w_notV ?_ | with_reducible refine w_if ?_ | with_reducible refine w_cb ?_ | with_reducible refine w_call ?_ | with_reducible refine w_lst ?_ | with_reducible refine w_tup ?_
  | with_reducible refine w_sl ?_ | with_reducible refine w_noPart ?_ | with_reducible refine w_part ?_ | with_reducible refine w_ex1 ?_ | with_reducible refine w_exb ?_ | with_reducible refine w_intB ?_ | with_reducible refine w_intI ?_ | with_reducible refine w_abs ?_)
local macro_rules | `(tactic| walk_at "rv ix") => `(tactic| ((with_reducible show rIxL _ _ _ _ _); refine' w_ixL (sq_lst ?ha) ?hb ?_; (case ha => first | exact upd_same | assumption); (case hb => first | exact rfl | assumption)))
local macro_rules | `(tactic| walk_at "rv ar") => `(tactic| first
  | (refine' w_I ?hc ?_; (case hc => first | (show (0 : Int) < _; first | assumption | decide | omega) | exact pow_c (by decide) (by decide) (by first | decide | omega) (by first | decide | omega) | exact mul_r (by first | decide | omega) (by first | decide | omega) | exact mul_l (by first | decide | omega) (by first | decide | omega) | exact divw (by first | assumption | decide | omega) (by first | assumption | decide | omega))))
local macro_rules | `(tactic| walk_at "rv go") => `(tactic| repeat first | walk_at "rv st" | walk_at "rv ix" | ((with_reducible show rI _ _ _ _ _ _); walk_at "rv ar"))
end Rv
namespace Rv
open PySem PySem.Spec PyProof.Rows L2
local macro_rules | `(tactic| walk_at "rv st") => `(tactic| first
  | with_reducible refine iteT ?_ | with_reducible refine iteF ?_ | with_reducible refine w_nx ?_ | with_reducible refine w_yes ?_ | with_reducible refine w_rt ?_ | with_reducible refine iteNT ?_ | with_reducible refine iteNF ?_ | with_reducible refine iteNRf ?_ | with_reducible refine iteRf ?_ | with_reducible refine w_seqA ?_ | with_reducible refine w_seqD ?_ | with_reducible refine w_seqP ?_ | with_reducible refine w_asg ?_ | with_reducible refine w_ret ?_ | with_reducible refine w_drop ?_ | with_reducible refine w_ifs ?_ | with_reducible refine w_next ?_ | with_reducible refine w_par ?_
  | with_reducible refine w_op ?_ | with_reducible refine w_un ?_ | ((with_reducible show tVar _ _ _ _); refine' w_var ?hv ?_; (case hv => exact rfl)) | with_reducible refine w_c ?_ | with_reducible refine w_test ?_ | with_reducible refine w_tB ?_
  | with_reducible refine w_bl ?_ | with_reducible refine w_I0 ?_ | with_reducible refine w_U ?_ | with_reducible refine w_eqI ?_ | with_reducible refine w_neI ?_
  | with_reducible refine w_cons ?_ | with_reducible refine w_nil ?_ | with_reducible refine w_gn ?_ | with_reducible refine w_gsub ?_ | with_reducible refine w_and ?_ | with_reducible refine w_or ?_ | with_reducible refine w_not ?_
  | with_reducible refine w_andV ?_ | with_reducible refine w_orV ?_ | with_reducible refine w_notV ?_ | with_reducible refine w_if ?_ | with_reducible refine w_cb ?_ | with_reducible refine w_call ?_ | with_reducible refine w_lst ?_ | with_reducible refine w_tup ?_
  | with_reducible refine w_sl ?_ | with_reducible refine w_noPart ?_ | with_reducible refine w_part ?_ | with_reducible refine w_ex1 ?_ | with_reducible refine w_exb ?_ | with_reducible refine w_intB ?_ | with_reducible refine w_intI ?_ | with_reducible refine w_abs ?_)
local macro_rules | `(tactic| walk_at "rv ix") => `(tactic| ((with_reducible show rIxL _ _ _ _ _); refine' w_ixL (sq_lst ?ha) ?hb ?_; (case ha => first | exact upd_same | assumption); (case hb => first | exact rfl | assumption)))
local macro_rules | `(tactic| walk_at "rv ar") => `(tactic| first
  | (refine' w_I ?hc ?_; (case hc => first | (show (0 : Int) < _; first | assumption | decide | omega) | exact pow_c (by decide) (by decide) (by first | decide | omega) (by first | decide | omega) | exact mul_r (by first | decide | omega) (by first | decide | omega) | exact mul_l (by first | decide | omega) (by first | decide | omega) | exact divw (by first | assumption | decide | omega) (by first | assumption | decide | omega))))
local macro_rules | `(tactic| walk_at "rv go") => `(tactic| repeat first | walk_at "rv st" | walk_at "rv ix" | ((with_reducible show rI _ _ _ _ _ _); walk_at "rv ar"))
end Rv
namespace Rv
open PySem PySem.Spec PyProof.Rows L2
local macro_rules | `(tactic| walk_at "rv st") => `(tactic| first
  | with_reducible refine iteT ?_ | with_reducible refine iteF ?_ | with_reducible refine w_nx ?_ | with_reducible refine w_yes ?_ | with_reducible refine w_rt ?_ | with_reducible refine iteNT ?_ | with_reducible refine iteNF ?_ | with_reducible refine iteNRf ?_ | with_reducible refine iteRf ?_ | with_reducible refine w_seqA ?_ | with_reducible refine w_seqD ?_ | with_reducible refine w_seqP ?_ | with_reducible refine w_asg ?_ | with_reducible refine w_ret ?_ | with_reducible refine w_drop ?_ | with_reducible refine w_ifs ?_ | with_reducible refine w_next ?_ | with_reducible refine w_par ?_
  | with_reducible refine w_op ?_ | with_reducible refine w_un ?_ | ((with_reducible show tVar _ _ _ _); refine' w_var ?hv ?_; (case hv => exact rfl)) | with_reducible refine w_c ?_ | with_reducible refine w_test ?_ | with_reducible refine w_tB ?_
  | with_reducible refine w_bl ?_ | with_reducible refine w_I0 ?_ | with_reducible refine w_U ?_ | with_reducible refine w_eqI ?_ | with_reducible refine w_neI ?_
  | with_reducible refine w_cons ?_ | with_reducible refine w_nil ?_ | with_reducible refine w_gn ?_ | with_reducible refine w_gsub ?_ | with_reducible refine w_and ?_ | with_reducible refine w_or ?_ | with_reducible refine w_not ?_
  | with_reducible refine w_andV ?_ | with_reducible refine w_orV ?_ | with_reducible refine w_notV ?_ | with_reducible refine w_if ?_ | with_reducible refine w_cb ?_ | with_reducible refine w_call ?_ | with_reducible refine w_lst ?_ | with_reducible refine w_tup ?_
  | with_reducible refine w_sl ?_ | with_reducible refine w_noPart ?_ | with_reducible refine w_part ?_ | with_reducible refine w_ex1 ?_ | with_reducible refine w_exb ?_ | with_reducible refine w_intB ?_ | with_reducible refine w_intI ?_ | with_reducible refine w_abs ?_)
local macro_rules | `(tactic| walk_at "rv ix") => `(tactic| ((with_reducible show rIxL _ _ _ _ _); refine' w_ixL (sq_lst ?ha) ?hb ?_; (case ha => first | exact upd_same | assumption); (case hb => first | exact rfl | assumption)))
local macro_rules | `(tactic| walk_at "rv ar") => `(tactic| first
  | (refine' w_I ?hc ?_; (case hc => first | (show (0 : Int) < _; first | assumption | decide | omega) | exact pow_c (by decide) (by decide) (by first | decide | omega) (by first | decide | omega) | exact mul_r (by first | decide | omega) (by first | decide | omega) | exact mul_l (by first | decide | omega) (by first | decide | omega) | exact divw (by first | assumption | decide | omega) (by first | assumption | decide | omega))))
local macro_rules | `(tactic| walk_at "rv go") => `(tactic| repeat first | walk_at "rv st" | walk_at "rv ix" | ((with_reducible show rI _ _ _ _ _ _); walk_at "rv ar"))
end Rv
namespace RvM
open PySem PySem.Spec PyProof.Rows L2 Rv
local macro_rules | `(tactic| walk_at "rv st") => `(tactic| first
  | with_reducible refine iteT ?_ | with_reducible refine iteF ?_ | with_reducible refine w_nx ?_ | with_reducible refine w_yes ?_ | with_reducible refine w_rt ?_ | with_reducible refine iteNT ?_ | with_reducible refine iteNF ?_ | with_reducible refine iteNRf ?_ | with_reducible refine iteRf ?_ | with_reducible refine w_seqA ?_ | with_reducible refine w_seqD ?_ | with_reducible refine w_seqP ?_ | with_reducible refine w_asg ?_ | with_reducible refine w_ret ?_ | with_reducible refine w_drop ?_ | with_reducible refine w_ifs ?_ | with_reducible refine w_next ?_ | with_reducible refine w_par ?_
  | with_reducible refine w_op ?_ | with_reducible refine w_un ?_ | ((with_reducible show tVar _ _ _ _); refine' w_var ?hv ?_; (case hv => exact rfl)) | with_reducible refine w_c ?_ | with_reducible refine w_test ?_ | with_reducible refine w_tB ?_
  | with_reducible refine w_bl ?_ | with_reducible refine w_I0 ?_ | with_reducible refine w_U ?_ | with_reducible refine w_eqI ?_ | with_reducible refine w_neI ?_
  | with_reducible refine w_cons ?_ | with_reducible refine w_nil ?_ | with_reducible refine w_gn ?_ | with_reducible refine w_gsub ?_ | with_reducible refine w_and ?_ | with_reducible refine w_or ?_ | with_reducible refine w_not ?_
  | with_reducible refine w_andV ?_ | with_reducible refine w_orV ?_ | with_reducible refine w_notV ?_ | with_reducible refine w_if ?_ | with_reducible refine w_cb ?_ | with_reducible refine w_call ?_ | with_reducible refine w_lst ?_ | with_reducible refine w_tup ?_
  | with_reducible refine w_sl ?_ | with_reducible refine w_noPart ?_ | with_reducible refine w_part ?_ | with_reducible refine w_ex1 ?_ | with_reducible refine w_exb ?_ | with_reducible refine w_intB ?_ | with_reducible refine w_intI ?_ | with_reducible refine w_abs ?_)
local macro_rules | `(tactic| walk_at "rv ix") => `(tactic| ((with_reducible show rIxL _ _ _ _ _); refine' w_ixL (sq_lst ?ha) ?hb ?_; (case ha => first | exact upd_same | assumption); (case hb => first | exact rfl | assumption)))
local macro_rules | `(tactic| walk_at "rv ar") => `(tactic| first
  | (refine' w_I ?hc ?_; (case hc => first | (show (0 : Int) < _; first | assumption | decide | omega) | exact pow_c (by decide) (by decide) (by first | decide | omega) (by first | decide | omega) | exact mul_r (by first | decide | omega) (by first | decide | omega) | exact mul_l (by first | decide | omega) (by first | decide | omega) | exact divw (by first | assumption | decide | omega) (by first | assumption | decide | omega))))
local macro_rules | `(tactic| walk_at "rv go") => `(tactic| repeat first | walk_at "rv st" | walk_at "rv ix" | ((with_reducible show rI _ _ _ _ _ _); walk_at "rv ar"))
end RvM
/-! str, bool, abs and unary minus of own instances. -/
namespace PySem.W
open PySem PySem.Calls PyProof.Rows Builtin
end PySem.W
namespace Rv
open PySem PySem.Spec PyProof.Rows L2
end Rv
namespace Rv
open PySem PySem.Spec PyProof.Rows L2
def nx1B (K : PySem.W.Frag) : Bool :=
  decide (PySem.W.exmOne K (.ref (He.ga K "InvalidNumber")) (.ref (He.ga K "InvalidNumber")) = some true) && decide (PySem.W.kitOne K (.ref (He.ga K "InvalidNumber")) (.ref (He.ga K "RainError")) = some true)
local macro_rules | `(tactic| walk_at "rv st") => `(tactic| first
  | with_reducible refine iteT ?_ | with_reducible refine iteF ?_ | with_reducible refine w_nx ?_ | with_reducible refine w_yes ?_ | with_reducible refine w_rt ?_ | with_reducible refine iteNT ?_ | with_reducible refine iteNF ?_ | with_reducible refine iteNRf ?_ | with_reducible refine iteRf ?_ | with_reducible refine w_seqA ?_ | with_reducible refine w_seqD ?_ | with_reducible refine w_seqP ?_ | with_reducible refine w_asg ?_ | with_reducible refine w_ret ?_ | with_reducible refine w_drop ?_ | with_reducible refine w_ifs ?_ | with_reducible refine w_next ?_ | with_reducible refine w_par ?_
  | with_reducible refine w_op ?_ | with_reducible refine w_un ?_ | ((with_reducible show tVar _ _ _ _); refine' w_var ?hv ?_; (case hv => exact rfl)) | with_reducible refine w_c ?_ | with_reducible refine w_test ?_ | with_reducible refine w_tB ?_
  | with_reducible refine w_bl ?_ | with_reducible refine w_I0 ?_ | with_reducible refine w_U ?_ | with_reducible refine w_eqI ?_ | with_reducible refine w_neI ?_
  | with_reducible refine w_cons ?_ | with_reducible refine w_nil ?_ | with_reducible refine w_gn ?_ | with_reducible refine w_gsub ?_ | with_reducible refine w_and ?_ | with_reducible refine w_or ?_ | with_reducible refine w_not ?_
  | with_reducible refine w_andV ?_ | with_reducible refine w_orV ?_ | with_reducible refine w_notV ?_ | with_reducible refine w_if ?_ | with_reducible refine w_cb ?_ | with_reducible refine w_call ?_ | with_reducible refine w_lst ?_ | with_reducible refine w_tup ?_
  | with_reducible refine w_sl ?_ | with_reducible refine w_noPart ?_ | with_reducible refine w_part ?_ | with_reducible refine w_ex1 ?_ | with_reducible refine w_exb ?_ | with_reducible refine w_intB ?_ | with_reducible refine w_intI ?_ | with_reducible refine w_abs ?_)
local macro_rules | `(tactic| walk_at "rv ix") => `(tactic| ((with_reducible show rIxL _ _ _ _ _); refine' w_ixL (sq_lst ?ha) ?hb ?_; (case ha => first | exact upd_same | assumption); (case hb => first | exact rfl | assumption)))
local macro_rules | `(tactic| walk_at "rv ar") => `(tactic| first
  | (refine' w_I ?hc ?_; (case hc => first | (show (0 : Int) < _; first | assumption | decide | omega) | exact pow_c (by decide) (by decide) (by first | decide | omega) (by first | decide | omega) | exact mul_r (by first | decide | omega) (by first | decide | omega) | exact mul_l (by first | decide | omega) (by first | decide | omega) | exact divw (by first | assumption | decide | omega) (by first | assumption | decide | omega))))
local macro_rules | `(tactic| walk_at "rv go") => `(tactic| repeat first | walk_at "rv st" | walk_at "rv ix" | ((with_reducible show rI _ _ _ _ _ _); walk_at "rv ar"))
end Rv
namespace Rv
open PySem PySem.Spec PyProof.Rows L2
def top (i : Nat) : Stmt := PySem.Challenge.pw_rainvalleys_k01_fractions_in_lowest_term.main.body.getD i (.Pass ⟨0, 0, 0, 0⟩)
abbrev s_InvalidNumber___init__ : Stmt := inClass (top 3) 0
abbrev s_is_whole : Stmt := top 5
abbrev s_common_divisor : Stmt := top 7
abbrev s_Ratio___init__ : Stmt := inClass (top 10) 0
abbrev s_Ratio_floor : Stmt := inClass (top 10) 5
abbrev s_Ratio___neg__ : Stmt := inClass (top 10) 12
abbrev s_Ratio___abs__ : Stmt := inClass (top 10) 13
abbrev s_Ratio___bool__ : Stmt := inClass (top 10) 14
abbrev s_Ratio___str__ : Stmt := inClass (top 10) 21
abbrev s_Ratio___repr__ : Stmt := inClass (top 10) 22
abbrev s__law_pool : Stmt := top 12
abbrev s__law_take : Stmt := top 13
abbrev s__law_whole : Stmt := top 14
abbrev s__law_said : Stmt := top 15
abbrev s__law_divisor : Stmt := top 16
abbrev s__law_right : Stmt := top 17
abbrev s_law : Stmt := top 18
def D_InvalidNumber___init__ : He.DefD := ⟨("InvalidNumber", some "__init__"), "__init__", "InvalidNumber.__init__", defArgs s_InvalidNumber___init__, defBody s_InvalidNumber___init__, defScope s_InvalidNumber___init__, [], []⟩
def D_is_whole : He.DefD := ⟨("is_whole", none), "is_whole", "is_whole", defArgs s_is_whole, defBody s_is_whole, defScope s_is_whole, [], []⟩
def D_common_divisor : He.DefD := ⟨("common_divisor", none), "common_divisor", "common_divisor", defArgs s_common_divisor, defBody s_common_divisor, defScope s_common_divisor, [], []⟩
def D_Ratio___init__ : He.DefD := ⟨("Ratio", some "__init__"), "__init__", "Ratio.__init__", defArgs s_Ratio___init__, defBody s_Ratio___init__, defScope s_Ratio___init__, [.int 1], []⟩
def D_Ratio_floor : He.DefD := ⟨("Ratio", some "floor"), "floor", "Ratio.floor", defArgs s_Ratio_floor, defBody s_Ratio_floor, defScope s_Ratio_floor, [], []⟩
def D_Ratio___neg__ : He.DefD := ⟨("Ratio", some "__neg__"), "__neg__", "Ratio.__neg__", defArgs s_Ratio___neg__, defBody s_Ratio___neg__, defScope s_Ratio___neg__, [], []⟩
def D_Ratio___abs__ : He.DefD := ⟨("Ratio", some "__abs__"), "__abs__", "Ratio.__abs__", defArgs s_Ratio___abs__, defBody s_Ratio___abs__, defScope s_Ratio___abs__, [], []⟩
def D_Ratio___bool__ : He.DefD := ⟨("Ratio", some "__bool__"), "__bool__", "Ratio.__bool__", defArgs s_Ratio___bool__, defBody s_Ratio___bool__, defScope s_Ratio___bool__, [], []⟩
def D_Ratio___str__ : He.DefD := ⟨("Ratio", some "__str__"), "__str__", "Ratio.__str__", defArgs s_Ratio___str__, defBody s_Ratio___str__, defScope s_Ratio___str__, [], []⟩
def D_Ratio___repr__ : He.DefD := ⟨("Ratio", some "__repr__"), "__repr__", "Ratio.__repr__", defArgs s_Ratio___repr__, defBody s_Ratio___repr__, defScope s_Ratio___repr__, [], []⟩
def D__law_pool : He.DefD := ⟨("_law_pool", none), "_law_pool", "_law_pool", defArgs s__law_pool, defBody s__law_pool, defScope s__law_pool, [], []⟩
def D__law_take : He.DefD := ⟨("_law_take", none), "_law_take", "_law_take", defArgs s__law_take, defBody s__law_take, defScope s__law_take, [], []⟩
def D__law_whole : He.DefD := ⟨("_law_whole", none), "_law_whole", "_law_whole", defArgs s__law_whole, defBody s__law_whole, defScope s__law_whole, [], []⟩
def D__law_said : He.DefD := ⟨("_law_said", none), "_law_said", "_law_said", defArgs s__law_said, defBody s__law_said, defScope s__law_said, [], []⟩
def D__law_divisor : He.DefD := ⟨("_law_divisor", none), "_law_divisor", "_law_divisor", defArgs s__law_divisor, defBody s__law_divisor, defScope s__law_divisor, [], []⟩
def D__law_right : He.DefD := ⟨("_law_right", none), "_law_right", "_law_right", defArgs s__law_right, defBody s__law_right, defScope s__law_right, [], []⟩
def D_law : He.DefD := ⟨("law", none), "law", "law", defArgs s_law, defBody s_law, defScope s_law, [], []⟩
def fn : List He.DefD := [D_InvalidNumber___init__, D_is_whole, D_common_divisor, D_Ratio___init__, D_Ratio_floor, D_Ratio___neg__, D_Ratio___abs__, D_Ratio___bool__, D_Ratio___str__, D_Ratio___repr__, D__law_pool, D__law_take, D__law_whole, D__law_said, D__law_divisor, D__law_right, D_law]
def loose : List PySem.Str := [("_wall" : PySem.Str), ("__name__" : PySem.Str), ("RainError" : PySem.Str), ("InvalidNumber" : PySem.Str), ("is_whole" : PySem.Str), ("common_divisor" : PySem.Str), ("as_ratio" : PySem.Str), ("gap" : PySem.Str), ("Ratio" : PySem.Str), ("_law_pool" : PySem.Str), ("_law_take" : PySem.Str), ("_law_whole" : PySem.Str), ("_law_said" : PySem.Str), ("_law_divisor" : PySem.Str), ("_law_right" : PySem.Str)]
def fa : List He.Fa := [.free "int", .free "isinstance", .free "bool", .free "abs", .free "str", .free "repr", .free "len", .free "min", .free "max", .free "range", .glo "InvalidNumber", .glo "Ratio", .cls "Ratio", .glo "RainError", .noat "Ratio" "reduced_top", .noat "Ratio" "reduced_bottom", .mkr "Ratio", .meth "InvalidNumber" "__init__", .glo "is_whole", .glo "common_divisor", .meth "Ratio" "floor", .meth "Ratio" "__neg__", .meth "Ratio" "__abs__", .meth "Ratio" "__bool__", .meth "Ratio" "__str__", .meth "Ratio" "__repr__", .glo "_law_pool", .glo "_law_take", .glo "_law_whole", .glo "_law_said", .glo "_law_divisor", .glo "_law_right", .glo "law"]
abbrev s_get_top : Stmt := inClass (top 10) 2
def G_top : Gt := ⟨"Ratio", "top", "Ratio.top", defArgs s_get_top, defBody s_get_top, defScope s_get_top⟩
abbrev s_get_bottom : Stmt := inClass (top 10) 3
def G_bottom : Gt := ⟨"Ratio", "bottom", "Ratio.bottom", defArgs s_get_bottom, defBody s_get_bottom, defScope s_get_bottom⟩
def gts : List Gt := [G_top, G_bottom]
def exB (K : PySem.W.Frag) : Bool := prB K "Ratio" "top" && (prB K "Ratio" "bottom" && (clB K "Ratio" && (kiB K "Ratio" && (decide (PySem.W.kitOne K (.ref (He.ga K "Ratio")) (.type "int") = some false) && (oxB K "InvalidNumber" "ValueError.__new__" bm_ValueError && (xfB K (He.ga K "InvalidNumber") && (decide (PySem.W.findIn K (.ref (He.ga K "InvalidNumber")) "value" = some none) && (ecB K "InvalidNumber" && (bgB K "RainError" "ValueError.__init__" && (nx1B K))))))))))
abbrev RR : PySem.W.OpenRow := PySem.W.OpenLaw.row PySem.Challenge.rw_rainvalleys_k01_fractions_in_lowest_term
abbrev hk : PySem.W.Hook := hookL (List.range 1400) fa fn gts exB
def ob (s : PySem.W.SharedT) : AlR := obsRL (List.range 1400) fa fn gts exB (HandSHeadRun.getT s)
theorem ob_eq (s : PySem.W.SharedT) : ob s = hk.obs s.abs := obsRL_eq (HandSHeadRun.getT_eq s)
theorem run (w : World) : HandSHeadRun.RunEq RR (PySem.W.view RR.prog [18]) hk ob 6000 loose w := by
  intro os
  kernel_rfl
end Rv
open PySem PySem.W PySem.Calls PyProof.Rows

set_option Elab.async false
set_option linter.all false
set_option maxRecDepth 100000
set_option maxHeartbeats 4000000
/-! Words of this proof: operators on values by short names, the steps of a reading, what a call of a def asks. -/
namespace Rv
open PySem PySem.Spec PyProof.Rows L2
abbrev oAdd : R2 := rI0 fun i j => .int (i + j)
abbrev oSub : R2 := rI0 fun i j => .int (i - j)
abbrev oMul : R2 := rI CMul fun i j => .int (i * j)
abbrev oMulW : R2 := rI CMulW fun i j => .int (i * j)
abbrev oDiv : R2 := rI CDivW fun i j => .int (i / j)
abbrev oMod : R2 := rI (fun _ j => 0 < j) fun i j => .int (i % j)
abbrev oPow : R2 := rI CPow fun i j => .int (i ^ j.toNat)
abbrev oLt : R2 := rI0 fun i j => .bl (decide (i < j))
abbrev oLe : R2 := rI0 fun i j => .bl (decide (i ≤ j))
abbrev oGt : R2 := rI0 fun i j => .bl (decide (j < i))
abbrev oGe : R2 := rI0 fun i j => .bl (decide (j ≤ i))
abbrev cLen (K : PySem.W.Frag) : List V → Hp → VK → Prop := fun xs H Q => ∃ p ys, xs = [.ref p] ∧ (SqL K H p ys ∨ SqT K H p ys) ∧ Q (.int ys.length) H
abbrev cMax2 : List V → Hp → VK → Prop := fun xs H Q => ∃ i j, xs = [.int i, .int j] ∧ Q (.int (if j > i then j else i)) H
abbrev cMin2 : List V → Hp → VK → Prop := fun xs H Q => ∃ i j, xs = [.int i, .int j] ∧ Q (.int (if j < i then j else i)) H
/-- a def of the module as its callers see it -/
structure Cal (P : Program) (w : World) (K : PySem.W.Frag) (mg : Str → Option Value) (base : Heap) (CX : CXT) (k : Nat) (x : Str) (ps : List Str) (sp : Sp) : Prop where
  ex : ∃ f fd, FnOk P w K mg base CX k f fd ps sp ∧ mg x = some (.ref f) ∧ PySem.W.keepIn K (.ref f) = true ∧ Binds K fd ps []
section
variable {X : Cx} {CX : CXT} {k : Nat} {x : Str} {ps : List Str} {sp : Sp} {E : XK} {p pos : Pos} {e : Expr} {es : List Expr} {t : TA}
theorem pe_cal (c : Cal X.prog X.w X.K X.mg X.base CX k x ps sp) (hr : Room k X.A) (hg : Gl X x) (hx : Passes CX X E) (ha : PA X (e :: es) t) (hdb : (x == ("__debug__" : Str)) = false := by decide)
    (he : starEach (e :: es) X.env = (false, eval e X.env) :: starEach es X.env := by rfl) (hpl : (backTo pos (starEach es X.env)).any (·.1) = false := by rfl) :
    PE X (.Call (.Name x p) (e :: es) [] pos) (tCall sp [] E t) := by
  obtain ⟨f, fd, F, hm, hk, hb⟩ := c.ex
  first
    | exact pe_call F hr hg hm hk hb .nil hx ha hdb he hpl
    | exact pe_call F hr hg hm hk hb .nil hx ha
end
section
variable {K : PySem.W.Frag} {σ : L2.St} {H : Hp} {Q : VK} {D : Ends} {v x y : V} {i j : Int} {n : Nat} {ta tb te to ti : TE} {t u c : TT} {tr : TA} {b : Bool} {r : R2} {s1 s2 : TS} {g : TG} {p : Addr} {xs : List V} {TQ : Bool → Hp → Prop} {AQ : List V → Hp → Prop} {HQ : Hp → Prop} {GQ : L2.St → Hp → Prop}
theorem w_seq (q : s1 { D with nx := s2 D } σ H) : tSeq s1 s2 D σ H := q
theorem w_setL {k : Int} {j : Nat} (h : H p = some (.lst xs)) (hj : ixN xs.length k = some j) (q : HQ (upd H p (.lst (xs.set j v)))) : rSetL (.ref p) (.int k) v H HQ := ⟨p, xs, k, j, rfl, rfl, h, hj, q⟩
theorem w_lenL (h : SqL K H p xs) (q : Q (.int xs.length) H) : cLen K [.ref p] H Q := ⟨p, xs, rfl, .inl h, q⟩
theorem w_slL {lo hi : Option Int} (h : SqL K H p xs) (q : ∀ q', H q' = none → Q (.ref q') (upd H q' (.lst (cutV xs lo hi)))) : rSlL K (.ref p) lo hi H Q := ⟨p, xs, rfl, h, q⟩
/-- a test whose answer is open: both ways -/
theorem w_both {c A B : Prop} [Decidable c] (h1 : c → A) (h2 : ¬ c → B) : if decide c = true then A else B := by
  by_cases h : c
  · rw [decide_eq_true h]
    exact iteT (h1 h)
  · rw [decide_eq_false h]
    exact iteF (h2 h)
theorem w_bothN {c A B : Prop} [Decidable c] (h1 : ¬ c → A) (h2 : c → B) : if (!decide c) = true then A else B := by
  by_cases h : c
  · rw [decide_eq_true h]
    exact iteF (h2 h)
  · rw [decide_eq_false h]
    exact iteT (h1 h)
end
theorem But.refl (d : Addr) (H : Hp) : But d H H := fun _ _ _ h => h
theorem But.trans {d : Addr} {H H1 H2 : Hp} (a : But d H H1) (b : But d H1 H2) : But d H H2 := fun c o n h => b c o n (a c o n h)
theorem But.wr {d : Addr} {H H' : Hp} {o : HO} (a : But d H H') : But d H (upd H' d o) := fun c u n h => by
  rw [upd_ne n]
  exact a c u n h
theorem But.same {d : Addr} {H H' : Hp} (a : Same H H') : But d H H' := fun c u _ z => a c u z
theorem same_new {p : Addr} {H H' : Hp} {o : HO} (a : Same H H') (h : H' p = none) : Same H (upd H' p o) := fun c u z => by
  have q := a c u z
  rw [upd_ne (ne_of_none q h)]
  exact q
theorem sq_tup {K : PySem.W.Frag} {H : Hp} {a : Addr} {xs : List V} (h : H a = some (.tup xs)) : SqT K H a xs := .inl (.inl h)
theorem at_nat {xs : List V} {j : Nat} {v : V} (h : xs[j]? = some v) : atI xs (j : Int) = some v := atI_nat h
theorem szl {n : Nat} (h : n ≤ 100000) : n ≤ sizeLine := Nat.le_trans h (by decide)
end Rv
namespace Rv
open PySem PySem.Spec PyProof.Rows L2
/-- a class of the module whose instances are made by its __init__ (dvs: the defaults that fill up) -/
structure CalM (P : Program) (w : World) (K : PySem.W.Frag) (mg : Str → Option Value) (base : Heap) (CX : CXT) (k : Nat) (x : Str) (C : Addr) (ps : List Str) (sp : Sp) (dvs : List V) : Prop where
  ex : ∃ f fd ds, FnOk P w K mg base CX k f fd ps sp ∧ Mk K C f ∧ mg x = some (.ref C) ∧ Binds K fd ps ds ∧ Vals dvs ds
/-- a property of a class that hands back a field -/
structure CalP (P : Program) (w : World) (K : PySem.W.Frag) (mg : Str → Option Value) (base : Heap) (CX : CXT) (k : Nat) (C : Addr) (f : Str) (sp : Sp) : Prop where
  ex : ∃ p g fd, FnOk P w K mg base CX k g fd ["self"] sp ∧ Cls K C ∧ PropOf K C f p g ∧ Binds K fd ["self"] []
/-- a method of a class -/
structure CalT (P : Program) (w : World) (K : PySem.W.Frag) (mg : Str → Option Value) (base : Heap) (CX : CXT) (k : Nat) (C : Addr) (m : Str) (ps : List Str) (sp : Sp) : Prop where
  ex : ∃ f fd, FnOk P w K mg base CX k f fd ps sp ∧ Cls K C ∧ Meth K C m f ∧ Binds K fd ps []
section
variable {X : Cx} {CX : CXT} {k : Nat} {x f m : Str} {ps : List Str} {sp : Sp} {E : XK} {p pos apos : Pos} {e o : Expr} {es : List Expr} {t : TA} {ta : TE} {C : Addr} {dvs : List V}
theorem pe_calm (c : CalM X.prog X.w X.K X.mg X.base CX k x C ps sp dvs) (hr : Room (k + 1) X.A) (hg : Gl X x) (hx : Passes CX X E) (ha : PA X (e :: es) t) (hdb : (x == ("__debug__" : Str)) = false := by decide)
    (he : starEach (e :: es) X.env = (false, eval e X.env) :: starEach es X.env := by rfl) (hpl : (backTo pos (starEach es X.env)).any (·.1) = false := by rfl) :
    PE X (.Call (.Name x p) (e :: es) [] pos) (tMake C sp dvs E t) := by
  obtain ⟨f, fd, ds, F, M, hm, hb, hd⟩ := c.ex
  exact pe_make M F hr hg hm hb hd hx ha hdb he hpl
theorem pe_calp (c : CalP X.prog X.w X.K X.mg X.base CX k C f sp) (hr : Room (k + 1) X.A) (hx : Passes CX X.nox E) (ha : PE X e ta) (hab : attributeBase e f X.env (eval e X.env) = eval e X.env) :
    PE X (.Attribute e f pos) (tProp C sp [] E ta) := by
  obtain ⟨q, g, fd, F, cl, hp, hb⟩ := c.ex
  exact pe_prop ha cl hp F hr hb .nil hx hab
theorem pe_calt0 {pl : Sem Bool} (c : CalT X.prog X.w X.K X.mg X.base CX k C m ps sp) (hr : Room k X.A) (hx : Passes CX X E) (ho : PE X o ta)
    (ht : eval (.Call (.Attribute o m apos) [] [] pos) X.env = (do let ov ← eval o X.env; standAt apos.atName; let (f, first) ← holding [ov] (getMethod ov m pl); callWith pos f first (backTo pos (starEach [] X.env)) (backToKw pos (keywordEach [] X.env))) := by rfl) :
    PE X (.Call (.Attribute o m apos) [] [] pos) (tMeth C m sp [] E ta tNil) := by
  obtain ⟨f, fd, F, cl, hm, hb⟩ := c.ex
  exact pe_meth0 ho cl hm F hr hb .nil hx ht
end
end Rv
namespace Rv
open PySem PySem.Spec PyProof.Rows L2
section
variable {K : PySem.W.Frag} {σ : L2.St} {H : Hp} {Q : VK} {D : Ends} {v x y : V} {i j : Int} {n slot : Nat} {ta tb tc te to ti tv tl : TE} {t u c tt : TT} {tr : TA} {b : Bool} {r r' : R2} {s1 s2 : TS} {g : TG} {p a d C dx : Addr} {xs : List V} {f : Str} {fs : List (Str × V)} {GQ2 : Hp → Prop}
theorem w_chain (q : ta σ H fun x H1 => tb σ H1 fun y H2 => r x y H2 fun z H3 => ∃ k, z = .bl k ∧ (if k = true then tc σ H3 fun w' H4 => r' y w' H4 Q else Q (.bl false) H3)) : tChain r r' ta tb tc σ H Q := q
theorem w_fld (hn : σ[n]? = some (some (.ref a))) (ho : H a = some (.ins C dx fs)) (hc : Cls K C) (hf : NoAttr K C f) (hl : fs.lookup f = some v) (q : Q v H) : tFld K (tVar n) f σ H Q := ⟨_, hn, a, C, dx, fs, v, rfl, ho, hc, hf, hl, q⟩
theorem w_prop {sp : Sp} {E : XK} (hn : σ[n]? = some (some (.ref a))) (ho : H a = some (.ins C dx fs)) (q : sp [.ref a] H Q E) : tProp C sp [] E (tVar n) σ H Q := ⟨_, hn, a, dx, fs, rfl, ho, q⟩
theorem w_sfld (q : tv σ H fun y H1 => to σ H1 fun x H2 => ∃ a C dx fs, x = .ref a ∧ H2 a = some (.ins C dx fs) ∧ Cls K C ∧ NoAttr K C f ∧ fs.length < 1000 ∧ D.nx σ (upd H2 a (.ins C dx (putF f y fs)))) : sFld K to tv f D σ H := q
theorem w_put (ho : H a = some (.ins C dx fs)) (hc : Cls K C) (hf : NoAttr K C f) (hl : fs.length < 1000) (q : GQ2 (upd H a (.ins C dx (putF f y fs)))) : ∃ a' C' dx' fs', V.ref a = .ref a' ∧ H a' = some (.ins C' dx' fs') ∧ Cls K C' ∧ NoAttr K C' f ∧ fs'.length < 1000 ∧ GQ2 (upd H a' (.ins C' dx' (putF f y fs'))) := ⟨a, C, dx, fs, rfl, ho, hc, hf, hl, q⟩
/-- a call of a maker -/
theorem w_make {sp : Sp} {dvs : List V} {E : XK} (q : tr σ H fun vs H1 => ∀ x dx, H1 x = none → H1 dx = none → dx ≠ x → sp (.ref x :: (vs ++ dvs)) (upd (upd H1 dx (.own x)) x (.ins C dx [])) (fun v H2 => v = .non ∧ Q (.ref x) H2) E) : tMake C sp dvs E tr σ H Q := q
/-- while -/
theorem w_while (W : Nat → L2.St → Hp → Prop) {m : Nat} (h0 : W m σ H) (hs : ∀ m σ' H', W m σ' H' → c σ' H' fun b H1 => if b = true then (∃ N : L2.St → Hp → Prop, (∀ σ2 H2, N σ2 H2 → ∃ m', m' < m ∧ W m' σ2 H2) ∧ s1 { D with nx := N, ct := N, bk := D.nx } σ' H1) else D.nx σ' H1) : tWhile c s1 D σ H := ⟨W, ⟨m, h0⟩, hs⟩
theorem w_turn {W : Nat → L2.St → Hp → Prop} {m : Nat} {σ' : L2.St} {H1 : Hp} {D2 : Ends} (h : s1 { D2 with nx := fun σ2 H2 => ∃ m', m' < m ∧ W m' σ2 H2, ct := fun σ2 H2 => ∃ m', m' < m ∧ W m' σ2 H2, bk := D2.nx } σ' H1) :
    ∃ N : L2.St → Hp → Prop, (∀ σ2 H2, N σ2 H2 → ∃ m', m' < m ∧ W m' σ2 H2) ∧ s1 { D2 with nx := N, ct := N, bk := D2.nx } σ' H1 := ⟨_, fun _ _ z => z, h⟩
end
end Rv
namespace Rv
open PySem PySem.Spec PyProof.Rows L2
section
variable {K : PySem.W.Frag} {σ : L2.St} {H : Hp} {Q : VK} {D : Ends} {v x y : V} {i j : Int} {n slot : Nat} {ta tb tc te to ti tv tl : TE} {t u c tt : TT} {tr : TA} {b b2 : Bool} {g : TG} {p a l : Addr} {xs ys : List V} {vs : List Nat}
/-- a list, two lists that are at hand -/
def iAt (K : PySem.W.Frag) (a : Addr) : TI := fun _ H R => (∃ xs, SqL K H a xs) ∧ R (Itl K a) H
end
end Rv
namespace Rv
open PySem PySem.Spec PyProof.Rows L2
/-! what the top leaves behind, beyond defs and methods: properties, an own ==, getters -/
theorem pr_of {K : PySem.W.Frag} {x f : Str} (h : prB K x f = true) : PropOf K (He.ga K x) f (prA K x f) (gtA K x f) := by
  obtain ⟨h1, h⟩ := He.ba h
  obtain ⟨h2, h⟩ := He.ba h
  obtain ⟨h3, h4⟩ := He.ba h
  refine ⟨He.eqO_ok h1, He.eqO_ok h2, of_decide_eq_true h3, ?_⟩
  unfold gtA
  cases q : PySem.W.recIn K (prA K x f) "property" with
  | none =>
    rw [q] at h4
    cases h4
  | some l =>
    rw [q] at h4
    match l, h4 with
    | .ref g :: r, _ => exact ⟨r, rfl⟩
theorem gt_fun {K : PySem.W.Frag} {g : Gt} {a : Addr} (e : txt K a = g.val) (c : txB K a g.qual = true) : ∃ z, FunD K g.pr g.qual g.params g.body g.scope [] [] a z := by
  obtain ⟨kp, c⟩ := He.ba c
  unfold txt at e
  cases q : K.lookup a with
  | none =>
    rw [q] at e
    cases e
  | some o =>
    obtain ⟨o1, o2, o3, o4⟩ := o
    rw [q] at e c
    cases o3 with
    | func z =>
      obtain ⟨z1, z2, z3, z4, z5, z6, z7, z8, z9, z10, z11, z12, z13, z14, z15⟩ := z
      have e2 : (some (z1, z2, z3, z4, z5, z6, z7, z15) : He.FnW) = some (g.pr, g.qual, g.params, .stmts g.body, g.scope, mainGlobals, [], builtinsNs) := e
      simp only [Option.some.injEq, Prod.mk.injEq] at e2
      obtain ⟨r1, r2, r3, r4, r5, r6, r7, r8⟩ := e2
      subst r1 r2 r3 r4 r5 r6 r7 r8
      obtain ⟨u1, u2⟩ := He.ba (show (PySem.W.codeIn K z13 _ && isNn z8) = true from c)
      cases z8 with
      | none => exact ⟨_, ⟨o1, o2, _, z9, z10, z11, z12, z13, z14, o4, rfl, q, u1, .inl ⟨rfl, rfl⟩, .inl rfl⟩, kp⟩
      | _ => cases u2
    | _ => cases c
/-! the hook: facts, defs, getters, one more test -/
section
variable {fa : List He.Fa} {fn : List He.DefD} {gs : List Gt} {ex : PySem.W.Frag → Bool} {K : PySem.W.Frag}
theorem SaysR.d (c : SaysR fa fn gs ex K) : He.SaysD fa fn K := congrArg (fun z : AlR => z.1) c
theorem SaysR.x (c : SaysR fa fn gs ex K) : ex K = true := (He.ba (show (ex K && gs.all fun g => txB K (gtA K g.cl g.pr) g.qual) = true from congrArg (fun z : AlR => z.2.1) c)).1
theorem SaysR.g (c : SaysR fa fn gs ex K) (i : Nat) {g : Gt} (h : gs[i]? = some g := by rfl) : ∃ z, FunD K g.pr g.qual g.params g.body g.scope [] [] (gtA K g.cl g.pr) z := by
  have c1 := (He.ba (show (ex K && gs.all fun g => txB K (gtA K g.cl g.pr) g.qual) = true from congrArg (fun z : AlR => z.2.1) c)).2
  have e : gs.map (fun g => txt K (gtA K g.cl g.pr)) = gs.map Gt.val := congrArg (fun z : AlR => z.2.2) c
  have e2 : (gs.map fun g => txt K (gtA K g.cl g.pr))[i]? = (gs.map Gt.val)[i]? := by rw [e]
  rw [List.getElem?_map, List.getElem?_map, h] at e2
  exact gt_fun (Option.some.inj e2) (List.all_eq_true.mp c1 g (List.mem_of_getElem? h))
end
end Rv
namespace Rv
open PySem PySem.Spec PyProof.Rows L2
/-! the hook with the addresses said -/
end Rv
namespace Rv
open PySem PySem.Spec PyProof.Rows L2
/-! ### the law's draws: a list of the cells, a place, a number in use, a seed -/
def DrawsAt (H : Hp) (d c : Addr) : Prop := ∃ (ns : List Int) (pos num seed : Int), H d = some (.lst [.ref c, .int pos, .int num, .int seed]) ∧ H c = some (.lst (ns.map V.int)) ∧ c ≠ d ∧ 0 ≤ pos ∧ 0 ≤ num ∧ 0 ≤ seed ∧ seed < 2147483647
theorem DrawsAt.wr {H : Hp} {d c a : Addr} {o : HO} (h : DrawsAt H d c) (n1 : a ≠ d) (n2 : a ≠ c) : DrawsAt (upd H a o) d c := by
  obtain ⟨ns, pos, num, seed, h1, h2, h3⟩ := h
  exact ⟨ns, pos, num, seed, by rw [upd_ne n1.symm]; exact h1, by rw [upd_ne n2.symm]; exact h2, h3⟩
theorem DrawsAt.nd {H : Hp} {d c a : Addr} (h : DrawsAt H d c) (n : H a = none) : a ≠ d := by
  obtain ⟨ns, pos, num, seed, h1, h2, h3⟩ := h
  intro e
  rw [e, h1] at n
  cases n
theorem cut_map (ns : List Int) (lo hi : Option Int) : ∃ ms : List Int, cutV (ns.map V.int) lo hi = ms.map V.int := by
  unfold cutV
  rw [← List.map_drop, ← List.map_take]
  exact ⟨_, rfl⟩
local macro_rules | `(tactic| walk_at "rv st") => `(tactic| first
  | with_reducible refine iteT ?_ | with_reducible refine iteF ?_ | with_reducible refine w_nx ?_ | with_reducible refine w_yes ?_ | with_reducible refine w_rt ?_ | with_reducible refine iteNT ?_ | with_reducible refine iteNF ?_ | with_reducible refine iteNRf ?_ | with_reducible refine iteRf ?_ | with_reducible refine w_seqA ?_ | with_reducible refine w_seqD ?_ | with_reducible refine w_seqP ?_ | with_reducible refine w_asg ?_ | with_reducible refine w_ret ?_ | with_reducible refine w_drop ?_ | with_reducible refine w_ifs ?_ | with_reducible refine w_next ?_ | with_reducible refine w_par ?_
  | with_reducible refine w_op ?_ | with_reducible refine w_un ?_ | ((with_reducible show tVar _ _ _ _); refine' w_var ?hv ?_; (case hv => exact rfl)) | with_reducible refine w_c ?_ | with_reducible refine w_test ?_ | with_reducible refine w_tB ?_
  | with_reducible refine w_bl ?_ | with_reducible refine w_I0 ?_ | with_reducible refine w_U ?_ | with_reducible refine w_eqI ?_ | with_reducible refine w_neI ?_
  | with_reducible refine w_cons ?_ | with_reducible refine w_nil ?_ | with_reducible refine w_gn ?_ | with_reducible refine w_gsub ?_ | with_reducible refine w_and ?_ | with_reducible refine w_or ?_ | with_reducible refine w_not ?_
  | with_reducible refine w_andV ?_ | with_reducible refine w_orV ?_ | with_reducible refine w_notV ?_ | with_reducible refine w_if ?_ | with_reducible refine w_cb ?_ | with_reducible refine w_call ?_ | with_reducible refine w_lst ?_ | with_reducible refine w_tup ?_
  | with_reducible refine w_sl ?_ | with_reducible refine w_noPart ?_ | with_reducible refine w_part ?_ | with_reducible refine w_ex1 ?_ | with_reducible refine w_exb ?_ | with_reducible refine w_intB ?_ | with_reducible refine w_intI ?_ | with_reducible refine w_abs ?_)
local macro_rules | `(tactic| walk_at "rv ix") => `(tactic| ((with_reducible show rIxL _ _ _ _ _); refine' w_ixL (sq_lst ?ha) ?hb ?_; (case ha => first | exact upd_same | assumption); (case hb => first | exact rfl | assumption)))
local macro_rules | `(tactic| walk_at "rv ar") => `(tactic| first
  | (refine' w_I ?hc ?_; (case hc => first | (show (0 : Int) < _; first | assumption | decide | omega) | exact pow_c (by decide) (by decide) (by first | decide | omega) (by first | decide | omega) | exact mul_r (by first | decide | omega) (by first | decide | omega) | exact mul_l (by first | decide | omega) (by first | decide | omega) | exact divw (by first | assumption | decide | omega) (by first | assumption | decide | omega))))
local macro_rules | `(tactic| walk_at "rv go") => `(tactic| repeat first | walk_at "rv st" | walk_at "rv ix" | ((with_reducible show rI _ _ _ _ _ _); walk_at "rv ar"))
end Rv
/-! enumerate of a tuple, and of a list or a tuple. -/
namespace PySem
end PySem
namespace Rv
open PySem PySem.Spec PyProof.Rows L2
end Rv
namespace Rv
open PySem PySem.Spec PyProof.Rows L2
/-! values: is it an integer -/
inductive Whole (K : PySem.W.Frag) (H : Hp) : V → Prop where
  | int (i : Int) : Whole K H (.int i)
  | bl (b : Bool) : Whole K H (.bl b)
  | other {v : V} {t : Value} (h : TyX K H v t) (k : PySem.W.kitOne K t (.type "int") = some false) (n1 : ∀ i, v ≠ .int i) : Whole K H v
def isI : V → Bool
  | .int _ => true
  | _ => false
def spWhole (K : PySem.W.Frag) : Sp := fun vs H Q _ => ∃ v, vs = [v] ∧ Whole K H v ∧ Q (.bl (isI v)) H
theorem isi_of {K : PySem.W.Frag} {H : Hp} {Q : VK} {x c : V} {t u : Value} {b : Bool} (h1 : ClsV c u) (h2 : TyX K H x t) (h3 : PySem.W.kitOne K t u = some b) (q : Q (.bl b) H) : rIsi K [x, c] H Q := ⟨x, c, t, u, b, rfl, h1, h2, h3, q⟩
theorem kit_ii {K : PySem.W.Frag} : PySem.W.kitOne K (.type "int") (.type "int") = some true := kit_ty (by decide +kernel)
theorem kit_ib {K : PySem.W.Frag} : PySem.W.kitOne K (.type "int") (.type "bool") = some false := kit_ty (by decide +kernel)
theorem kit_bi {K : PySem.W.Frag} : PySem.W.kitOne K (.type "bool") (.type "int") = some true := kit_ty (by decide +kernel)
theorem kit_bb {K : PySem.W.Frag} : PySem.W.kitOne K (.type "bool") (.type "bool") = some true := kit_ty (by decide +kernel)
/-- a row that is a list or a tuple -/
def RowAt (K : PySem.W.Frag) (H : Hp) (a : Addr) (xs : List V) : Prop := H a = some (.lst xs) ∨ H a = some (.tup xs)
theorem RowAt.same {K : PySem.W.Frag} {H H' : Hp} {a : Addr} {xs : List V} (h : RowAt K H a xs) (e : Same H H') : RowAt K H' a xs := h.elim (fun h => .inl (e _ _ h)) fun h => .inr (e _ _ h)
def pfl (t1 t2 : Addr) : List (Str × V) := putF "column_widths" (.ref t2) (putF "column_heights" (.ref t1) [])
/-- a Profile stands at p -/
def ProfAt (K : PySem.W.Frag) (C : Addr) (H : Hp) (p : Addr) (hs ws : List Int) : Prop := ∃ dx t1 t2, H p = some (.ins C dx (pfl t1 t2)) ∧ H t1 = some (.tup (hs.map V.int)) ∧ H t2 = some (.tup (ws.map V.int))
theorem ProfAt.same {K : PySem.W.Frag} {C : Addr} {H H' : Hp} {p : Addr} {hs ws : List Int} (h : ProfAt K C H p hs ws) (e : Same H H') : ProfAt K C H' p hs ws := by
  obtain ⟨dx, t1, t2, h1, h2, h3⟩ := h
  exact ⟨dx, t1, t2, e _ _ h1, e _ _ h2, e _ _ h3⟩
def t_is_whole (K : PySem.W.Frag) : TS :=
  (tRet (tAndV (tCB (rIsi K) (tCons (tVar 0) (tCons (tC (.ty "int")) tNil))) (tNotV (tCB (rIsi K) (tCons (tVar 0) (tCons (tC (.ty "bool")) tNil))))))
local macro_rules | `(tactic| walk_at "rv st") => `(tactic| first
  | with_reducible refine iteT ?_ | with_reducible refine iteF ?_ | with_reducible refine w_nx ?_ | with_reducible refine w_yes ?_ | with_reducible refine w_rt ?_ | with_reducible refine iteNT ?_ | with_reducible refine iteNF ?_ | with_reducible refine iteNRf ?_ | with_reducible refine iteRf ?_ | with_reducible refine w_seqA ?_ | with_reducible refine w_seqD ?_ | with_reducible refine w_seqP ?_ | with_reducible refine w_asg ?_ | with_reducible refine w_ret ?_ | with_reducible refine w_drop ?_ | with_reducible refine w_ifs ?_ | with_reducible refine w_next ?_ | with_reducible refine w_par ?_
  | with_reducible refine w_op ?_ | with_reducible refine w_un ?_ | ((with_reducible show tVar _ _ _ _); refine' w_var ?hv ?_; (case hv => exact rfl)) | with_reducible refine w_c ?_ | with_reducible refine w_test ?_ | with_reducible refine w_tB ?_
  | with_reducible refine w_bl ?_ | with_reducible refine w_I0 ?_ | with_reducible refine w_U ?_ | with_reducible refine w_eqI ?_ | with_reducible refine w_neI ?_
  | with_reducible refine w_cons ?_ | with_reducible refine w_nil ?_ | with_reducible refine w_gn ?_ | with_reducible refine w_gsub ?_ | with_reducible refine w_and ?_ | with_reducible refine w_or ?_ | with_reducible refine w_not ?_
  | with_reducible refine w_andV ?_ | with_reducible refine w_orV ?_ | with_reducible refine w_notV ?_ | with_reducible refine w_if ?_ | with_reducible refine w_cb ?_ | with_reducible refine w_call ?_ | with_reducible refine w_lst ?_ | with_reducible refine w_tup ?_
  | with_reducible refine w_sl ?_ | with_reducible refine w_noPart ?_ | with_reducible refine w_part ?_ | with_reducible refine w_ex1 ?_ | with_reducible refine w_exb ?_ | with_reducible refine w_intB ?_ | with_reducible refine w_intI ?_ | with_reducible refine w_abs ?_)
local macro_rules | `(tactic| walk_at "rv ix") => `(tactic| ((with_reducible show rIxL _ _ _ _ _); refine' w_ixL (sq_lst ?ha) ?hb ?_; (case ha => first | exact upd_same | assumption); (case hb => first | exact rfl | assumption)))
local macro_rules | `(tactic| walk_at "rv ar") => `(tactic| first
  | (refine' w_I ?hc ?_; (case hc => first | (show (0 : Int) < _; first | assumption | decide | omega) | exact pow_c (by decide) (by decide) (by first | decide | omega) (by first | decide | omega) | exact mul_r (by first | decide | omega) (by first | decide | omega) | exact mul_l (by first | decide | omega) (by first | decide | omega) | exact divw (by first | assumption | decide | omega) (by first | assumption | decide | omega))))
local macro_rules | `(tactic| walk_at "rv go") => `(tactic| repeat first | walk_at "rv st" | walk_at "rv ix" | ((with_reducible show rI _ _ _ _ _ _); walk_at "rv ar"))
theorem ty_same {K : PySem.W.Frag} {H H' : Hp} {v : V} {t : Value} (h : TyX K H v t) (e : Same H H') : TyX K H' v t := by
  cases h with
  | base h =>
    cases h with
    | non => exact .base .non
    | bl x => exact .base (.bl x)
    | int i => exact .base (.int i)
    | str x => exact .base (.str x)
    | flt x => exact .base (.flt x)
    | lst h => exact .base (.lst (e _ _ h))
    | frz h => exact .base (.frz (e _ _ h))
    | tup h => exact .base (.tup (e _ _ h))
    | dK h => exact .base (.dK (e _ _ h))
    | dT h => exact .base (.dT (e _ _ h))
    | ins h cl ha hn htk hm => exact .base (.ins (e _ _ h) cl ha hn htk hm)
  | byt b => exact .byt b
  | set h => exact .set (e _ _ h)
  | kList h c => exact .kList h c
  | kTuple h c => exact .kTuple h c
  | kDict h c => exact .kDict h c
  | fTuple h => exact .fTuple (e _ _ h)
  | fDict h => exact .fDict (e _ _ h)
theorem Whole.same {K : PySem.W.Frag} {H H' : Hp} {v : V} (h : Whole K H v) (e : Same H H') : Whole K H' v := by
  cases h with
  | int i => exact .int i
  | bl b => exact .bl b
  | other h k n => exact .other (ty_same h e) k n
theorem whole_int {K : PySem.W.Frag} {H : Hp} {v : V} (h : Whole K H v) : ∃ t, TyX K H v t ∧ PySem.W.kitOne K t (.type "int") = some (isI v || match v with | .bl _ => true | _ => false) := by
  cases h with
  | int i => exact ⟨_, .base (.int i), kit_ii⟩
  | bl b => exact ⟨_, .base (.bl b), kit_bi⟩
  | other h k n1 =>
    refine ⟨_, h, ?_⟩
    rw [k]
    cases v with
    | int i => exact absurd rfl (n1 i)
    | bl b =>
      cases h with
      | base hb =>
        cases hb
        rw [kit_bi] at k
        cases k
    | _ => rfl
theorem p_whole {K : PySem.W.Frag} {vs : List V} {H : Hp} {Q : VK} {E : XK} (h : spWhole K vs H Q E) : t_is_whole K { nx := fun _ H' => Q .non H', rt := Q } (start ["value"] vs) H := by
  obtain ⟨v, rfl, hw, k⟩ := h
  unfold t_is_whole
  obtain ⟨t, h1, h2⟩ := whole_int hw
  walk_at "rv go"
  refine isi_of (.ty "int") h1 h2 ?_
  walk_at "rv go"
  cases v with
  | int i =>
    refine iteT ?_
    walk_at "rv go"
    refine isi_of (.ty "bool") (.base (.int i)) kit_ib ?_
    walk_at "rv go"
    exact k
  | bl b =>
    refine iteT ?_
    walk_at "rv go"
    refine isi_of (.ty "bool") (.base (.bl b)) kit_bb ?_
    walk_at "rv go"
    exact k
  | _ => exact k
theorem sqT_same0 {K : PySem.W.Frag} {H H' : Hp} {a : Addr} {xs : List V} (h : SqT K H a xs) (e : Same H H') : SqT K H' a xs := by
  rcases h with (h | ⟨o, h⟩) | h
  · exact .inl (.inl (e _ _ h))
  · exact .inl (.inr ⟨o, e _ _ h⟩)
  · exact .inr h
theorem dp_ints {K : PySem.W.Frag} {H : Hp} : ∀ zs : List Int, DpAll K H (zs.map V.int) (zs.map PyData.int)
  | [] => .nil
  | z :: r => .cons (.int z) (dp_ints r)
theorem lay_ints : ∀ zs : List Int, PyData.canLayAll0 (zs.map PyData.int) = true ∧ PyData.depthAll (zs.map PyData.int) = 0
  | [] => ⟨by simp [PyData.canLayAll0], by simp [PyData.depthAll]⟩
  | z :: r => by
    have h := lay_ints r
    exact ⟨by simp [PyData.canLayAll0, PyData.canLay0, h.1], by simp [PyData.depthAll, PyData.depth, h.2]⟩
end Rv
/-! Operators, comparisons and len of instances of a class with its own defs for them. -/
namespace Rv
open PySem PySem.Spec PyProof.Rows L2
end Rv
namespace Rv
open PySem PySem.Spec PyProof.Rows L2
structure Red (n d t b : Int) : Prop where
  eq : t * d = n * b
  pos : 0 < b
  low : Int.gcd t b = 1
  le : b ≤ d
  lt : t.natAbs ≤ n.natAbs
theorem red_gcd {n d : Int} (hd : 0 < d) : Red n d (n / (Int.gcd n d : Int)) (d / (Int.gcd n d : Int)) := by
  have g0 : 0 < Int.gcd n d := Int.gcd_pos_iff.mpr (.inr (by omega))
  have g1 : (0 : Int) < (Int.gcd n d : Int) := by omega
  obtain ⟨x, hx⟩ := Int.gcd_dvd_left (a := n) (b := d)
  obtain ⟨y, hy⟩ := Int.gcd_dvd_right (a := n) (b := d)
  have low : Int.gcd x y = 1 := by
    have e : Int.gcd n d = Int.gcd n d * Int.gcd x y := by
      have q := Int.gcd_mul_left (Int.gcd n d : Int) x y
      rw [← hx, ← hy, Int.natAbs_natCast] at q
      exact q
    exact Nat.eq_of_mul_eq_mul_left g0 (by omega)
  have ex : n / (Int.gcd n d : Int) = x := by
    have q := Int.mul_ediv_cancel_left x (show (Int.gcd n d : Int) ≠ 0 by omega)
    rw [← hx] at q
    exact q
  have ey : d / (Int.gcd n d : Int) = y := by
    have q := Int.mul_ediv_cancel_left y (show (Int.gcd n d : Int) ≠ 0 by omega)
    rw [← hy] at q
    exact q
  rw [ex, ey]
  have py : 0 < y := by
    by_cases h : 0 < y
    · exact h
    · have : (Int.gcd n d : Int) * y ≤ 0 := Int.mul_nonpos_of_nonneg_of_nonpos (by omega) (by omega)
      omega
  generalize hg : Int.gcd n d = g at *
  refine ⟨?_, py, low, ?_, ?_⟩
  · rw [hx, hy]
    rw [show x * ((g : Int) * y) = (g : Int) * x * y by rw [Int.mul_left_comm, Int.mul_assoc]]
  · rw [hy]
    have := Int.mul_le_mul_of_nonneg_right (show (1 : Int) ≤ g by omega) (show 0 ≤ y by omega)
    omega
  · rw [hx, Int.natAbs_mul, Int.natAbs_natCast]
    exact Nat.le_mul_of_pos_left _ g0
theorem gcd_step {a b : Int} (hb : 0 < b) (ha : 0 ≤ a) : Int.gcd b (a % b) = Int.gcd a b := by
  have e : a = (a.natAbs : Int) := by omega
  have f : b = (b.natAbs : Int) := by omega
  rw [Int.gcd_comm a b, e, f, ← Int.natCast_emod]
  show Nat.gcd _ _ = Nat.gcd _ _
  simp only [Int.natAbs_natCast]
  rw [Nat.gcd_comm b.natAbs (a.natAbs % b.natAbs), ← Nat.gcd_rec]
def Sz (k : Nat) (z : Int) : Prop := z.natAbs < 2 ^ k
theorem Sz.mono {j k : Nat} {z : Int} (h : Sz j z) (e : j ≤ k) : Sz k z := Nat.lt_of_lt_of_le h (Nat.pow_le_pow_right (by decide) e)
/-! fractions in the heap -/
def rfl2 (t b : Int) : List (Str × V) := putF "reduced_bottom" (.int b) (putF "reduced_top" (.int t) [])
theorem n_tb : ¬ (("reduced_top" : Str) = "reduced_bottom") := by decide +kernel
theorem rfl2_t (t b : Int) : (rfl2 t b).lookup ("reduced_top" : Str) = some (.int t) := by
  unfold rfl2
  rw [lookup_putF, if_neg n_tb, lookup_putF, if_pos rfl]
theorem rfl2_b (t b : Int) : (rfl2 t b).lookup ("reduced_bottom" : Str) = some (.int b) := by
  unfold rfl2
  rw [lookup_putF, if_pos rfl]
/-- a Ratio t / b in lowest terms stands at p -/
def RatAt (C : Addr) (H : Hp) (p : Addr) (t b : Int) : Prop := (0 < b ∧ Int.gcd t b = 1) ∧ ∃ dx, H p = some (.ins C dx (rfl2 t b))
theorem RatAt.same {C : Addr} {H H' : Hp} {p : Addr} {t b : Int} (h : RatAt C H p t b) (e : Same H H') : RatAt C H' p t b := by
  obtain ⟨l, dx, h1⟩ := h
  exact ⟨l, dx, e _ _ h1⟩
/-- a number: an int or a Ratio -/
def Num (C : Addr) (H : Hp) (v : V) (n d : Int) : Prop := (v = .int n ∧ d = 1) ∨ ∃ p, v = .ref p ∧ RatAt C H p n d
theorem Num.same {C : Addr} {H H' : Hp} {v : V} {n d : Int} (h : Num C H v n d) (e : Same H H') : Num C H' v n d := by
  rcases h with h | ⟨p, h1, h2⟩
  · exact .inl h
  · exact .inr ⟨p, h1, h2.same e⟩
theorem Num.pos {C : Addr} {H : Hp} {v : V} {n d : Int} (h : Num C H v n d) : 0 < d := by
  rcases h with ⟨_, h⟩ | ⟨p, _, h, _⟩
  · omega
  · exact h.1
/-- what is told of the class Ratio -/
structure RCls (K : PySem.W.Frag) (C : Addr) : Prop where
  cl : Cls K C
  nT : NoAttr K C "reduced_top"
  nB : NoAttr K C "reduced_bottom"
  cA : PySem.W.findIn K (.ref C) "__class__" = some (some (.builtin "object.__class__"))
  cG : PySem.W.specialIn K (.builtin "object.__class__") "__get__" = some (some (.builtin "getset_descriptor.__get__"))
  cT : PySem.W.takesIn K (.builtin "object.__class__") = some true
  cM : PySem.W.mroIn K C (.type "object") = some true
  ki : PySem.W.kitOne K (.type "int") (.ref C) = some false
def spGcd (K : PySem.W.Frag) : Sp := fun vs H Q _ => ∃ a b : Int, vs = [.int a, .int b] ∧ 0 ≤ a ∧ 0 ≤ b ∧ Q (.int (Int.gcd a b : Int)) H
def hN (hs : List Int) (i : Nat) : Int := (hs[i]?).getD 0
def t_common_divisor (K : PySem.W.Frag) : TS :=
  (tSeq (tWhile (tTest (tOp rNe (tVar 1) (tC (.int 0)))) (tPar 0 1 (tCons (tVar 1) (tCons (tOp oMod (tVar 0) (tVar 1)) tNil))))
    (tRet (tVar 0)))
local macro_rules | `(tactic| walk_at "rv st") => `(tactic| first
  | with_reducible refine iteT ?_ | with_reducible refine iteF ?_ | with_reducible refine w_nx ?_ | with_reducible refine w_yes ?_ | with_reducible refine w_rt ?_ | with_reducible refine iteNT ?_ | with_reducible refine iteNF ?_ | with_reducible refine iteNRf ?_ | with_reducible refine iteRf ?_ | with_reducible refine w_seqA ?_ | with_reducible refine w_seqD ?_ | with_reducible refine w_seqP ?_ | with_reducible refine w_asg ?_ | with_reducible refine w_ret ?_ | with_reducible refine w_drop ?_ | with_reducible refine w_ifs ?_ | with_reducible refine w_next ?_ | with_reducible refine w_par ?_
  | with_reducible refine w_op ?_ | with_reducible refine w_un ?_ | ((with_reducible show tVar _ _ _ _); refine' w_var ?hv ?_; (case hv => exact rfl)) | with_reducible refine w_c ?_ | with_reducible refine w_test ?_ | with_reducible refine w_tB ?_
  | with_reducible refine w_bl ?_ | with_reducible refine w_I0 ?_ | with_reducible refine w_U ?_ | with_reducible refine w_eqI ?_ | with_reducible refine w_neI ?_
  | with_reducible refine w_cons ?_ | with_reducible refine w_nil ?_ | with_reducible refine w_gn ?_ | with_reducible refine w_gsub ?_ | with_reducible refine w_and ?_ | with_reducible refine w_or ?_ | with_reducible refine w_not ?_
  | with_reducible refine w_andV ?_ | with_reducible refine w_orV ?_ | with_reducible refine w_notV ?_ | with_reducible refine w_if ?_ | with_reducible refine w_cb ?_ | with_reducible refine w_call ?_ | with_reducible refine w_lst ?_ | with_reducible refine w_tup ?_
  | with_reducible refine w_sl ?_ | with_reducible refine w_noPart ?_ | with_reducible refine w_part ?_ | with_reducible refine w_ex1 ?_ | with_reducible refine w_exb ?_ | with_reducible refine w_intB ?_ | with_reducible refine w_intI ?_ | with_reducible refine w_abs ?_)
local macro_rules | `(tactic| walk_at "rv ix") => `(tactic| ((with_reducible show rIxL _ _ _ _ _); refine' w_ixL (sq_lst ?ha) ?hb ?_; (case ha => first | exact upd_same | assumption); (case hb => first | exact rfl | assumption)))
local macro_rules | `(tactic| walk_at "rv ar") => `(tactic| first
  | (refine' w_I ?hc ?_; (case hc => first | (show (0 : Int) < _; first | assumption | decide | omega) | exact pow_c (by decide) (by decide) (by first | decide | omega) (by first | decide | omega) | exact mul_r (by first | decide | omega) (by first | decide | omega) | exact mul_l (by first | decide | omega) (by first | decide | omega) | exact divw (by first | assumption | decide | omega) (by first | assumption | decide | omega))))
local macro_rules | `(tactic| walk_at "rv go") => `(tactic| repeat first | walk_at "rv st" | walk_at "rv ix" | ((with_reducible show rI _ _ _ _ _ _); walk_at "rv ar"))
theorem mulw {j k : Nat} {x y : Int} (h : Sz j x) (g : Sz k y) (h0 : 0 < j) (h1 : 0 < k) (h2 : j + k ≤ 1000000) : CMulW x y := wide_mul h g h0 h1 h2
theorem p_gcd {K : PySem.W.Frag} {vs : List V} {H : Hp} {Q : VK} {E : XK} (h : spGcd K vs H Q E) : t_common_divisor K { nx := fun _ H' => Q .non H', rt := Q } (start ["first", "second"] vs) H := by
  obtain ⟨a, b, rfl, ha, hb, k⟩ := h
  unfold t_common_divisor
  refine w_seq ?_
  refine w_while (fun m σ' H' => ∃ x y : Int, σ' = [some (.int x), some (.int y)] ∧ 0 ≤ x ∧ 0 ≤ y ∧ m = y.toNat ∧ Int.gcd x y = Int.gcd a b ∧ H' = H) (m := b.toNat) ⟨a, b, rfl, ha, hb, rfl, rfl, rfl⟩ ?_
  rintro m σ' H' ⟨x, y, rfl, hx, hy, rfl, e, rfl⟩
  walk_at "rv go"
  refine w_bothN (fun h1 => ?_) (fun h1 => ?_)
  · refine w_turn ?_
    have y0 : 0 < y := by omega
    have z1 := Int.emod_lt_of_pos x y0
    have z2 := Int.emod_nonneg x (show y ≠ 0 by omega)
    walk_at "rv go"
    refine ⟨_, _, rfl, ?_⟩
    exact ⟨(x % y).toNat, by omega, y, x % y, rfl, hy, z2, rfl, by rw [gcd_step y0 hx]; exact e, rfl⟩
  · subst h1
    walk_at "rv go"
    rw [← e, Int.gcd_zero_right] at k
    have e2 : ((x.natAbs : Nat) : Int) = x := by omega
    rw [e2] at k
    exact k
end Rv
/-! The head's tests of the classes Profile and Ratio. -/
namespace Rv
open PySem PySem.Spec PyProof.Rows L2
theorem rcls_of {K : PySem.W.Frag} (k : Cls K (He.ga K "Ratio")) (nT : NoAttr K (He.ga K "Ratio") "reduced_top") (nB : NoAttr K (He.ga K "Ratio") "reduced_bottom") (h : clB K "Ratio" = true) (h5 : kiB K "Ratio" = true) : RCls K (He.ga K "Ratio") := by
  obtain ⟨h1, h⟩ := He.ba h
  obtain ⟨h2, h⟩ := He.ba h
  obtain ⟨h3, h4⟩ := He.ba h
  exact ⟨k, nT, nB, He.eqO_ok h1, He.eqO_ok h2, of_decide_eq_true h3, of_decide_eq_true h4, of_decide_eq_true h5⟩
end Rv
namespace Rv
open PySem PySem.Spec PyProof.Rows L2
local macro_rules | `(tactic| walk_at "rv st") => `(tactic| first
  | with_reducible refine iteT ?_ | with_reducible refine iteF ?_ | with_reducible refine w_nx ?_ | with_reducible refine w_yes ?_ | with_reducible refine w_rt ?_ | with_reducible refine iteNT ?_ | with_reducible refine iteNF ?_ | with_reducible refine iteNRf ?_ | with_reducible refine iteRf ?_ | with_reducible refine w_seqA ?_ | with_reducible refine w_seqD ?_ | with_reducible refine w_seqP ?_ | with_reducible refine w_asg ?_ | with_reducible refine w_ret ?_ | with_reducible refine w_drop ?_ | with_reducible refine w_ifs ?_ | with_reducible refine w_next ?_ | with_reducible refine w_par ?_
  | with_reducible refine w_op ?_ | with_reducible refine w_un ?_ | ((with_reducible show tVar _ _ _ _); refine' w_var ?hv ?_; (case hv => exact rfl)) | with_reducible refine w_c ?_ | with_reducible refine w_test ?_ | with_reducible refine w_tB ?_
  | with_reducible refine w_bl ?_ | with_reducible refine w_I0 ?_ | with_reducible refine w_U ?_ | with_reducible refine w_eqI ?_ | with_reducible refine w_neI ?_
  | with_reducible refine w_cons ?_ | with_reducible refine w_nil ?_ | with_reducible refine w_gn ?_ | with_reducible refine w_gsub ?_ | with_reducible refine w_and ?_ | with_reducible refine w_or ?_ | with_reducible refine w_not ?_
  | with_reducible refine w_andV ?_ | with_reducible refine w_orV ?_ | with_reducible refine w_notV ?_ | with_reducible refine w_if ?_ | with_reducible refine w_cb ?_ | with_reducible refine w_call ?_ | with_reducible refine w_lst ?_ | with_reducible refine w_tup ?_
  | with_reducible refine w_sl ?_ | with_reducible refine w_noPart ?_ | with_reducible refine w_part ?_ | with_reducible refine w_ex1 ?_ | with_reducible refine w_exb ?_ | with_reducible refine w_intB ?_ | with_reducible refine w_intI ?_ | with_reducible refine w_abs ?_)
local macro_rules | `(tactic| walk_at "rv ix") => `(tactic| ((with_reducible show rIxL _ _ _ _ _); refine' w_ixL (sq_lst ?ha) ?hb ?_; (case ha => first | exact upd_same | assumption); (case hb => first | exact rfl | assumption)))
local macro_rules | `(tactic| walk_at "rv ar") => `(tactic| first
  | (refine' w_I ?hc ?_; (case hc => first | (show (0 : Int) < _; first | assumption | decide | omega) | exact pow_c (by decide) (by decide) (by first | decide | omega) (by first | decide | omega) | exact mul_r (by first | decide | omega) (by first | decide | omega) | exact mul_l (by first | decide | omega) (by first | decide | omega) | exact divw (by first | assumption | decide | omega) (by first | assumption | decide | omega))))
local macro_rules | `(tactic| walk_at "rv go") => `(tactic| repeat first | walk_at "rv st" | walk_at "rv ix" | ((with_reducible show rI _ _ _ _ _ _); walk_at "rv ar"))
end Rv
namespace Rv
open PySem PySem.Spec PyProof.Rows L2
local macro_rules | `(tactic| walk_at "rv st") => `(tactic| first
  | with_reducible refine iteT ?_ | with_reducible refine iteF ?_ | with_reducible refine w_nx ?_ | with_reducible refine w_yes ?_ | with_reducible refine w_rt ?_ | with_reducible refine iteNT ?_ | with_reducible refine iteNF ?_ | with_reducible refine iteNRf ?_ | with_reducible refine iteRf ?_ | with_reducible refine w_seqA ?_ | with_reducible refine w_seqD ?_ | with_reducible refine w_seqP ?_ | with_reducible refine w_asg ?_ | with_reducible refine w_ret ?_ | with_reducible refine w_drop ?_ | with_reducible refine w_ifs ?_ | with_reducible refine w_next ?_ | with_reducible refine w_par ?_
  | with_reducible refine w_op ?_ | with_reducible refine w_un ?_ | ((with_reducible show tVar _ _ _ _); refine' w_var ?hv ?_; (case hv => exact rfl)) | with_reducible refine w_c ?_ | with_reducible refine w_test ?_ | with_reducible refine w_tB ?_
  | with_reducible refine w_bl ?_ | with_reducible refine w_I0 ?_ | with_reducible refine w_U ?_ | with_reducible refine w_eqI ?_ | with_reducible refine w_neI ?_
  | with_reducible refine w_cons ?_ | with_reducible refine w_nil ?_ | with_reducible refine w_gn ?_ | with_reducible refine w_gsub ?_ | with_reducible refine w_and ?_ | with_reducible refine w_or ?_ | with_reducible refine w_not ?_
  | with_reducible refine w_andV ?_ | with_reducible refine w_orV ?_ | with_reducible refine w_notV ?_ | with_reducible refine w_if ?_ | with_reducible refine w_cb ?_ | with_reducible refine w_call ?_ | with_reducible refine w_lst ?_ | with_reducible refine w_tup ?_
  | with_reducible refine w_sl ?_ | with_reducible refine w_noPart ?_ | with_reducible refine w_part ?_ | with_reducible refine w_ex1 ?_ | with_reducible refine w_exb ?_ | with_reducible refine w_intB ?_ | with_reducible refine w_intI ?_ | with_reducible refine w_abs ?_)
local macro_rules | `(tactic| walk_at "rv ix") => `(tactic| ((with_reducible show rIxL _ _ _ _ _); refine' w_ixL (sq_lst ?ha) ?hb ?_; (case ha => first | exact upd_same | assumption); (case hb => first | exact rfl | assumption)))
local macro_rules | `(tactic| walk_at "rv ar") => `(tactic| first
  | (refine' w_I ?hc ?_; (case hc => first | (show (0 : Int) < _; first | assumption | decide | omega) | exact pow_c (by decide) (by decide) (by first | decide | omega) (by first | decide | omega) | exact mul_r (by first | decide | omega) (by first | decide | omega) | exact mul_l (by first | decide | omega) (by first | decide | omega) | exact divw (by first | assumption | decide | omega) (by first | assumption | decide | omega))))
local macro_rules | `(tactic| walk_at "rv go") => `(tactic| repeat first | walk_at "rv st" | walk_at "rv ix" | ((with_reducible show rI _ _ _ _ _ _); walk_at "rv ar"))
end Rv
/-! Calls by keywords alone. -/
namespace Rv
open PySem PySem.Spec PyProof.Rows L2
/-- a class made so -/
structure CalMK (P : Program) (w : World) (K : PySem.W.Frag) (mg : Str → Option Value) (base : Heap) (CX : CXT) (k : Nat) (x : Str) (C : Addr) (ps : List Str) (sp : Sp) (ks : List Str) (gV : List V → List V → List V) : Prop where
  ex : ∃ f fd g, FnOk P w K mg base CX k f fd ps sp ∧ Mk K C f ∧ mg x = some (.ref C) ∧ KBn K fd ps 1 ks g gV
section
variable {X : Cx} {CX : CXT} {k : Nat} {x : Str} {ps ks : List Str} {sp : Sp} {E : XK} {p pos : Pos} {kws : List Keyword} {tk : TA} {C : Addr} {gV : List V → List V → List V}
theorem pe_calmk (c : CalMK X.prog X.w X.K X.mg X.base CX k x C ps sp ks gV) (hr : Room (k + 1) X.A) (hg : Gl X x) (hx : Passes CX X E) (hkw : PK X kws tk)
    (hall : (backToKw pos (keywordEach kws X.env)).all (·.1.isSome) = true := by rfl) (hks : (backToKw pos (keywordEach kws X.env)).filterMap (·.1) = ks := by rfl) (hdb : (x == ("__debug__" : Str)) = false := by decide)
    (hpl : ((backTo pos (starEach [] X.env)).any (·.1) || (backToKw pos (keywordEach kws X.env)).any (·.1.isNone)) = false := by rfl)
    {n : Nat} (hn : ks.length = n := by rfl) : PE X (.Call (.Name x p) [] kws pos) (tMakeK C 0 n sp gV E tNil tk) := by
  subst hn
  obtain ⟨f, fd, g, F, M, hm, hb⟩ := c.ex
  exact pe_makeK0 M F hr hg hm hb hx hkw hall hks hdb hpl
end
/-- keywords in the parameters' order, by places -/
def pick {α : Type} (is : List Nat) (zs : List α) : List α := is.filterMap fun i => zs[i]?
theorem pick_vals {is : List Nat} : ∀ {zs : List V} {ws : List Value}, Vals zs ws → Vals (pick is zs) (pick is ws) := by
  intro zs ws r
  unfold pick
  induction is with
  | nil => exact .nil
  | cons i t ih =>
    rw [List.filterMap_cons, List.filterMap_cons]
    by_cases h : i < zs.length
    · obtain ⟨u, hu, ru⟩ := r.get (List.getElem?_eq_getElem h)
      rw [List.getElem?_eq_getElem h, hu]
      exact .cons ru ih
    · have h2 : ¬ i < ws.length := by rw [← r.length]; exact h
      rw [List.getElem?_eq_none (by omega), List.getElem?_eq_none (by omega)]
      exact ih
end Rv
/-! Defs that are run where no guard is under way: what repr of lists and tuples asks. -/
namespace Rv
open PySem PySem.Spec PyProof.Rows L2
/-- a def's promise, told of callers without guards alone -/
structure FnOkG (P : Program) (w : World) (K : PySem.W.Frag) (mg : Str → Option Value) (base : Heap) (CX : CXT) (k : Nat) (f : Addr) (fd : FuncData) (ps : List Str) (sp : Sp) : Prop where
  len : ∀ vs H Q E, sp vs H Q E → vs.length = ps.length
  run : ∀ (A : Around) (outer : List Env) (s : Shared) (H : Hp) (args : Args) (us : List Value) (vs : List V) (Q : VK) (E : XK), A.guards = some [] → Room k A → Env0 P w K mg base A outer s H → BindsTo s fd args (ps.zip us) → Vals vs us → sp vs H Q E →
    codeAny (model P w) A (.call (.ref f) args) (CR CX outer P w H s Q E) s
section
variable {P : Program} {w : World} {K : PySem.W.Frag} {mg : Str → Option Value} {base : Heap} {CX : CXT} {k : Nat} {f : Addr} {fd : FuncData} {N ps : List Str} {sp : Sp} {x qual : Str} {params : Arguments} {body : List Stmt} {scope : Scope} {dvs : List V} {kws : List (Str × V)}
theorem FnOk.g (F : FnOk P w K mg base CX k f fd ps sp) : FnOkG P w K mg base CX k f fd ps sp := ⟨F.len, fun A outer s H args us vs Q E _ => F.run A outer s H args us vs Q E⟩
theorem guards_deeper {A : Around} {env : Env} (h : A.guards = some []) : (A.deeper env).guards = some [] := h
theorem FunD.okG (F : FunD K x qual params body scope dvs kws f fd) (S : FnScope N ps scope) (len : ∀ vs H Q E, sp vs H Q E → vs.length = ps.length)
    (hbody : ∀ (cdv : Value) (A : Around) (outer : List Env) (s : Shared) (H : Hp) (vs : List V) (Q : VK) (E : XK), (A.deeper (envOfC qual scope s.heap.objs.size f cdv)).guards = some [] → Room k (A.deeper (envOfC qual scope s.heap.objs.size f cdv)) → sp vs H Q E →
      ∃ t, PSs (cxOf CX P w K mg base N qual scope f cdv A outer s H E) body t ∧ t { nx := fun _ H' => Q .non H', rt := Q } (start N vs) H) : FnOkG P w K mg base CX (k + 1) f fd ps sp := by
  obtain ⟨oc, od, dV, kV, doc, pm, an, cdv, ct, osl, rfl, lk, hcd, _, _⟩ := F.ex
  refine ⟨len, fun A outer s H args us vs Q E hg hr e0 hb r hsp => ?_⟩
  have hl := len _ _ _ _ hsp
  have KX : K.In s.heap := e0.mod.kin.keeps fun b o e => (e0.bs b o e).1
  have lim : s.heap.NoLimit := e0.mod.nolimit.keeps fun b o e => (e0.bs b o e).1
  have hkind : ∀ y ∈ ps.zip us, scope.names.lookup y.1 = some .local ∨ (scope.names.lookup y.1 = some .cell ∧ ((cellsFrom (s.heap.objs.size + 1) scope.names []).lookup y.1).isSome = true) := by
    rintro ⟨n, v⟩ hy
    rcases S.par n (List.of_mem_zip hy).1 with q | q
    · exact .inl q
    · exact .inr ⟨q, PySem.W.cellsFrom_some _ _ _ (.inl q)⟩
  refine codeAny_call_function hr.depth (KX _ _ lk) rfl S.co S.gen rfl (PySem.W.codeRec_of KX hcd) (hb _ _ _ _ (wpAny_newFunctionEnv_cells S.kind hkind fun env he s1 x1 => ?_))
  subst he
  refine ⟨lim.keeps x1.toInCall.keep, codeAny_func ?_⟩
  obtain ⟨t, ht, hq⟩ := hbody cdv A outer s H vs Q E (guards_deeper hg) (hr.deeper _) hsp
  have I : Inv (cxOf CX P w K mg base N qual scope f cdv A outer s H E) [] (start N vs) H s1 := inv_start S hr.hd e0 hl r x1
  refine wpAny_mono (ht.run [] s1 (start N vs) H _ I hq) (fun fl s' hs => ?_) fun e s' hs => hs
  cases fl with
  | ret u =>
    obtain ⟨v, σ', H', J, rv, q⟩ := hs
    exact ⟨v, H', J.os, J.bare, J.base, J.hok, rv, q⟩
  | next =>
    obtain ⟨σ', H', J, q⟩ := hs
    exact ⟨.non, H', J.os, J.bare, J.base, J.hok, rfl, q⟩
  | brk =>
    obtain ⟨_, _, _, q⟩ := hs
    exact q.elim
  | cont =>
    obtain ⟨_, _, _, q⟩ := hs
    exact q.elim
end
section
variable {X : Cx} {CX : CXT} {k : Nat} {f : Addr} {fd : FuncData} {ps : List Str} {sp : Sp} {dvs : List V} {ds : List Value} {E : XK} {x : Str} {p pos : Pos} {e : Expr} {es : List Expr} {t : TA}
theorem run_fnG {pins : List (Addr × Obj)} {σ : L2.St} {H : Hp} {s : Shared} {Q : VK} {us : List Value} {vs : List V} (F : FnOkG X.prog X.w X.K X.mg X.base CX k f fd ps sp) (hg : X.A.guards = some []) (hr : Room k X.A) (hb : Binds X.K fd ps ds) (hd : Vals dvs ds) (hx : Passes CX X E)
    (I : Inv X pins σ H s) (r : Vals vs us) (h : sp (vs ++ dvs) H Q E) : wpAny (model X.prog X.w) X.A (call (.ref f) us) (EP X pins σ Q) X.xe s := by
  have r2 : Vals (vs ++ dvs) (us ++ ds) := r.append hd
  have hl : (us ++ ds).length = ps.length := by rw [← r2.length]; exact F.len _ _ _ _ h
  refine wpAny_call (codeAny_mono (F.run X.A X.stack s H ⟨us, []⟩ (us ++ ds) (vs ++ dvs) Q E hg hr I.env0 (hb s us I.kIn hl) r2 h) fun r s' hq => ?_)
  cases r with
  | error e => exact hx pins σ H s e s' I hq
  | ok fl =>
    cases fl with
    | ret u => exact I.after hq
    | next => exact hq.elim
    | brk => exact hq.elim
    | cont => exact hq.elim
end
/-- a def of the module whose promise is told of callers without guards -/
structure CalG (P : Program) (w : World) (K : PySem.W.Frag) (mg : Str → Option Value) (base : Heap) (CX : CXT) (k : Nat) (x : Str) (ps : List Str) (sp : Sp) : Prop where
  ex : ∃ f fd, FnOkG P w K mg base CX k f fd ps sp ∧ mg x = some (.ref f) ∧ PySem.W.keepIn K (.ref f) = true ∧ Binds K fd ps []
section
variable {X : Cx} {CX : CXT} {k : Nat} {x : Str} {ps : List Str} {sp : Sp} {E : XK} {p pos : Pos} {e : Expr} {es : List Expr} {t : TA}
theorem pe_calG (c : CalG X.prog X.w X.K X.mg X.base CX k x ps sp) (hgd : X.A.guards = some []) (hr : Room k X.A) (hg : Gl X x) (hx : Passes CX X E) (ha : PA X (e :: es) t) (hdb : (x == ("__debug__" : Str)) = false := by decide)
    (he : starEach (e :: es) X.env = (false, eval e X.env) :: starEach es X.env := by rfl) (hpl : (backTo pos (starEach es X.env)).any (·.1) = false := by rfl) :
    PE X (.Call (.Name x p) (e :: es) [] pos) (tCall sp [] E t) := by
  obtain ⟨f, fd, F, hm, hk, hb⟩ := c.ex
  refine ⟨fun pins s σ H Q I h => ?_⟩
  refine wpAny_Call_Name_kw (ld_glob I hg hm ?_ hdb)
  refine PySem.W.callWith_K (h₀ := X.base) I.ok.mod.kin hk (thn (ha.run pos pins s σ H _ I h) fun us s1 ⟨vs, H1, I1, r, q⟩ => ⟨I1.kIn, ?_⟩) he hpl
  exact run_fnG F hgd hr hb .nil hx I1 r q
end
/-- the law is called where nothing is under way -/
theorem law_callG {P : Program} {w : World} {K : PySem.W.Frag} {mg mb : Str → Option Value} {CX : CXT} {k : Nat} {fa a : Addr} {fd : FuncData} {x : Str} {sp : Sp} {s₁ : Shared} {vs : List Value} {ns : List Int}
    (KX : K.In s₁.heap) (hns : s₁.heap.Ns mainGlobals mg) (hb : s₁.heap.Ns builtinsNs mb) (hbb : ∀ x : Str, x ≠ "__name__" → mb x = bootBuiltins x) (hlim : s₁.heap.NoLimit) (hg : s₁.gens = #[])
    (ha : s₁.heap.get? a = some { cls := .type "list", data := .seq vs.toArray }) (hi : IntsAre vs ns) (hl : ns.length ≤ sizeLine) (hr : Room k callerA)
    (F : ∀ base : Heap, K.In base → base.Ns mainGlobals mg → FnOkG P w K mg base CX k fa fd [x] sp) (hbind : ∀ (s : Shared) (u : Value), BindsTo s fd ⟨[u], []⟩ [(x, u)])
    (hsp : ∀ H : Hp, Only H → SqL K H a (ns.map V.int) → sp [.ref a] H (fun v _ => v = .bl true) fun _ _ _ => False)
    (hCX : ∀ H e s', CX [] H s₁ (fun _ _ _ => False) e s' → False) :
    codeAny (model P w) callerA (.call (.ref fa) ⟨[.ref a], []⟩) (fun r s' => r = .ok (.ret (.bool true)) ∧ OldK s₁.heap s'.heap ∧ s'.os = s₁.os ∧ AllBare s'.gens) s₁ := by
  have rv := vals_ints hi
  have lenV := hi.length
  have core : ∀ H : Hp, Only H → SqL K H a (ns.map V.int) → HOk P w H s₁.heap → (∀ b, H b ≠ none → b = a) → (H a ≠ none → K.lookup a = none) →
      codeAny (model P w) callerA (.call (.ref fa) ⟨[.ref a], []⟩) (fun r s' => r = .ok (.ret (.bool true)) ∧ OldK s₁.heap s'.heap ∧ s'.os = s₁.os ∧ AllBare s'.gens) s₁ := by
    intro H hO hS hok hA hK
    have base_of : ∀ {b : Addr} {o : Obj}, s₁.heap.get? b = some o → H b = none → (hidT s₁.heap H).get? b = some o := fun e n => hidT_get e n
    have noA : ∀ {b : Addr} {o : Obj} {es : Array DictEntry} {ep : Nat}, s₁.heap.get? b = some o → o.data = .dict es ep → H b = none := by
      intro b o es ep e d
      cases q : H b with
      | none => rfl
      | some u =>
        have e' : b = a := hA b (by rw [q]; simp)
        subst e'
        rw [ha] at e
        cases e
        have d' : Data.seq vs.toArray _ = Data.dict es ep := d
        cases d'
    have nsK : ∀ {b : Addr} {m : Str → Option Value}, s₁.heap.Ns b m → (hidT s₁.heap H).Ns b m := fun {b m} ⟨o, es, ep, e, d, r⟩ => ⟨o, es, ep, base_of e (noA e d), d, r⟩
    have hKb : K.In (hidT s₁.heap H) := fun b o e => base_of (KX b o e) (by
      cases q : H b with
      | none => rfl
      | some u =>
        have e' : b = a := hA b (by rw [q]; simp)
        subst e'
        rw [hK (by rw [q]; simp)] at e
        cases e)
    obtain ⟨mc, l1, l2⟩ := hlim
    have hM : Mod K mg (hidT s₁.heap H) := ⟨hKb, nsK hns, ⟨mb, nsK hb, hbb⟩, ⟨mc, nsK l1, l2⟩⟩
    have e0 : Env0 P w K mg (hidT s₁.heap H) callerA [] s₁ H := ⟨rfl, hM, fun b o e => of_hidT e, Nat.le_of_eq (hidT_size _ _), trivial, fun b hb => absurd (show b ∈ ([] : List Addr) from hb) (by simp), hok, .of_eq hg⟩
    refine codeAny_mono ((F _ hKb (nsK hns)).run callerA [] s₁ H ⟨[.ref a], []⟩ [.ref a] [.ref a] _ _ rfl hr e0 (hbind s₁ (.ref a)) (.cons rfl .nil) (hsp H hO hS)) fun r s' h => ?_
    cases r with
    | error e => exact (hCX H e s' h).elim
    | ok fl =>
      cases fl with
      | next => exact h.elim
      | brk => exact h.elim
      | cont => exact h.elim
      | ret u =>
        obtain ⟨v, H', os, bare, un, hok', r', q⟩ := h
        have q' : v = .bl true := q
        subst q'
        obtain rfl : u = Value.bool true := r'
        refine ⟨rfl, OldK.of_keep fun b o e => ?_, os, bare⟩
        cases q : H b with
        | none => exact un.keep b o e q (by intro z; exact absurd (show b ∈ ([] : List Addr) from z) (by simp)) (by simp)
        | some u =>
          rcases hO b with z | ⟨ob, xs, z⟩
          · rw [q] at z
            cases z
          · have z2 := un.frzs b ob _ z
            obtain ⟨e1, _⟩ := hok b _ z
            obtain ⟨e2, _⟩ := hok' b _ z2
            rw [e] at e1
            cases e1
            exact e2
  cases hk : K.lookup a with
  | some o =>
    have e := KX a o hk
    rw [ha] at e
    cases e
    refine core (fun _ => none) (fun _ => .inl rfl) (.inr ⟨_, vs.toArray, _, hk, rfl, rfl, rfl, by rw [List.size_toArray, lenV]; exact hl, by simpa using rv⟩) (fun b u z => by
      have z' : (none : Option HO) = some u := z
      cases z') (fun b z => absurd rfl z) fun z => absurd rfl z
  | none =>
    refine core (fun b => if b = a then some (.frz { cls := .type "list", data := .seq vs.toArray } (.lst (ns.map V.int))) else none) (fun b => ?_) (.inl (.inr ⟨{ cls := .type "list", data := .seq vs.toArray }, if_pos rfl⟩)) (fun b u z => ?_) (fun b z => ?_) fun _ => hk
    · by_cases hb : b = a
      · exact .inr ⟨_, _, if_pos hb⟩
      · exact .inl (if_neg hb)
    · by_cases hb : b = a
      · have z' := (if_pos hb).symm.trans z
        cases z'
        subst hb
        exact ⟨ha, by rw [List.length_map]; exact hl, vs, _, rv, ha⟩
      · have z' := (if_neg hb).symm.trans z
        cases z'
    · by_cases hb : b = a
      · exact hb
      · exact absurd (if_neg hb) z
theorem walk_ofG {l : PySem.W.OpenLaw} {n k : Nat} {q : Program} {loose : List Str} {XP : (Str → Option Value) → Heap → Prop} {YP : World → Heap → Prop} {d : DefRec} {CX : CXT} {x : Str}
    (hn : l.most = some n) (hn2 : n ≤ sizeLine) (hdf : d.params.defaults = []) (hr : Room k callerA)
    (F : ∀ (w : World) (mg : Str → Option Value) (fa : Addr) (h : Heap), YP w h → h.Ns mainGlobals mg → mg d.name = some (.ref fa) →
      ∃ (K : PySem.W.Frag) (fd : FuncData) (sp : Sp), K.In h ∧ (∀ (s : Shared) (u : Value), BindsTo s fd ⟨[u], []⟩ [(x, u)]) ∧
        (∀ (H : Hp) (a : Addr) (ns : List Int), ns.length ≤ n → Only H → SqL K H a (ns.map V.int) → sp [.ref a] H (fun v _ => v = .bl true) fun _ _ _ => False) ∧
        ∀ base : Heap, K.In base → base.Ns mainGlobals mg → FnOkG l.prog w K mg base CX k fa fd [x] sp)
    (hCX : ∀ (H : Hp) (s : Shared) (e : Value) (s' : Shared), CX [] H s (fun _ _ _ => False) e s' → False) :
    PySem.W.WalkO q loose XP YP l.row.toRowW d [] (fun f vs => PySem.call f vs) := by
  refine Att.attach_call hn hdf fun w s₀ s₁ mg mb fa o pm cd doc a vs ns G Y ho hd hcd hmg hobj hints hlen hg => ?_
  obtain ⟨K, fd, sp, KX, hb, hsp, hF⟩ := F w mg fa _ Y G.T.g hmg
  exact law_callG KX G.T.g G.T.b G.T.builtins G.T.nolimit hg hobj hints (Nat.le_trans hlen hn2) hr hF hb (fun H hO hS => hsp H a ns hlen hO hS) fun H e s' => hCX H s₁ e s'
end Rv
/-! Texts of lists of ints, and of own instances whose def makes a text. -/
namespace Rv
open PySem PySem.Spec PyProof.Rows L2
theorem sizeLine_big : 200000 ≤ sizeLine := by decide
theorem small_log {z : Int} (h : z.natAbs < 10 ^ 32) : z.natAbs.log2 < 1920 := by
  by_cases h0 : z.natAbs = 0
  · rw [h0]; decide
  · exact (Nat.log2_lt h0).mpr (Nat.lt_of_lt_of_le h (by decide))
theorem ints_showable : ∀ {zs : List Int}, (∀ z ∈ zs, z.natAbs < 10 ^ 32) → PyData.showableAll (zs.map PyData.int) = true
  | [], _ => by simp [PyData.showableAll]
  | z :: r, h => by
    simp only [List.map_cons, PyData.showableAll, PyData.showable, Bool.and_eq_true, decide_eq_true_eq]
    exact ⟨small_log (h z List.mem_cons_self), ints_showable fun y hy => h y (List.mem_cons_of_mem _ hy)⟩
theorem ints_dict : ∀ zs : List Int, PyData.hasDictAll (zs.map PyData.int) = false
  | [] => by simp [PyData.hasDictAll]
  | z :: r => by simp only [List.map_cons, PyData.hasDictAll, PyData.hasDict, ints_dict r, Bool.or_false]
/-- f'..' of two parts or more -/
def tJoin (ts : List TE) : TE := fun σ H Q => tJs ts Str.empty σ H fun out H1 => Q (.str out) H1
theorem pe_join {X : Cx} {v1 v2 : Expr} {rest : List Expr} {ts : List TE} {pos : Pos} (h : PJ X (v1 :: v2 :: rest) ts) : PE X (.JoinedStr (v1 :: v2 :: rest) pos) (tJoin ts) := pe_joined h
section
variable {σ : L2.St} {H : Hp} {Q : VK} {t te : TE} {ts : List TE} {acc : Str} {R : Str → Hp → Prop}
theorem w_join (q : tJs ts Str.empty σ H fun out H1 => Q (.str out) H1) : tJoin ts σ H Q := q
theorem w_js (q : t σ H fun x H1 => ∃ y : Str, x = .str y ∧ (acc ++ y).length ≤ sizeLine ∧ tJs ts (acc ++ y) σ H1 R) : tJs (t :: ts) acc σ H R := q
end
end Rv
/-! t[::-1] of a tuple. -/
namespace Rv
open PySem PySem.Spec PyProof.Rows L2
end Rv
/-! Comparisons of an int with an instance of an own class: the int declines, the class's own def answers; own comparisons with values of any kind. -/
namespace Rv
open PySem PySem.Spec PyProof.Rows L2
end Rv
/-! Own comparisons with values of any kind, in both orders. -/
namespace Rv
open PySem PySem.Spec PyProof.Rows L2
/-! lowest terms -/
end Rv
/-! != of instances with an own == and no own !=; + of two own instances. -/
namespace PySem.W
open PySem PySem.Spec PyProof.Rows
end PySem.W
namespace Rv
open PySem PySem.Spec PyProof.Rows L2
end Rv
/-! Base.__init__(self, ..) where Base is an own class under ValueError that has no __init__ of its own. -/
namespace Rv
open PySem PySem.Spec PyProof.Rows L2
end Rv
/-! Own exceptions under any base of the standard ones: fields set in __init__. -/
namespace Rv
open PySem PySem.W PySem.Calls PyProof.Rows PySem.HandSPX Builtin Builtin.ObjectAttr
section
variable {prog : Program} {w : World} {A : Around} {R : Result → Shared → Prop} {hp : Heap} {g : Array GenState} {dr : Drawn} {t : Nat} {os : OsState}
variable {K : W.Frag} {nm : Str} {tk : Tok} {v : Value} {x C : Addr} {fv : Array Value} {cd : ClassData}
/-- an mro by which a store passes -/
structure Mok (m : List Value) : Prop where
  ps : ∀ self, refuseLoop self "__setattr__" m = pure ()
  ne : m.isEmpty = false
  ob : m.contains (.type "object") = true
theorem set_first (X : K.In hp) (gx : hp.get? x = some { cls := .ref C, data := .fields fv }) (gc : W.clsIn K C = some cd) (m : Mok cd.mro) (gd : cd.hasDict = true) (ga : W.findIn K (.ref C) nm = some none)
    (q : ∀ h2 u dx, (∀ b o, b ≠ x → hp.get? b = some o → h2.get? b = some o) → hp.objs.size ≤ dx → dx ≠ x → h2.get? x = some { cls := .ref C, dict := some dx, data := .fields fv } →
      h2.Ns1 dx (fun y => if y = nm then some v else none) → R (.ok (.ret .none)) ⟨h2, g, dr, u, os⟩) :
    codeAny (model prog w) A (.call (.builtin "object.__setattr__") ⟨[.ref x, .str nm tk, v], []⟩) R ⟨hp, g, dr, t, os⟩ := by
  have J : W.InstAt hp x { cls := .ref C, data := .fields fv } C none := ⟨gx, rfl, rfl, trivial⟩
  have S := F.store_object
  have n0 : x ≠ hp.objs.size := Nat.ne_of_lt (Heap.lt_size gx)
  have inO : W.Looks (model prog w) hp (isInstance (.ref x) (.type "object")) true := J.type.andThen (W.looks_mroIn X (by
    unfold W.mroIn
    rw [gc, Option.bind_some, if_neg (by rw [m.ne]; decide), m.ob]))
  refine codeAny_call_builtin S.slot.plain S.entry (@W.check_slot (model prog w) _ _ ⟨hp, g, dr, t, os⟩ "object.__setattr__" "object" "__setattr__" (.ref x) [.str nm tk, v] [] _ S.kind S.split inO (S.args (.ref x) (.str nm tk) v) ?_)
  have mr : W.Looks (model prog w) hp (mroOf (.ref C)) cd.mro := (W.looks_clsIn X gc).andThen .now
  have tn : W.Looks (model prog w) hp (storeTaker? none) none := .now
  have ck : W.Looks (model prog w) hp (classData C) cd := W.looks_clsIn X gc
  rw [W.osa_eq, refuse_eq]
  refine wpAny_bind (wpAny_bind (J.type.at (wpAny_bind (mr.at ?_))))
  rw [m.ps]
  refine wpAny_pure (wpAny_bind (J.type.at (wpAny_bind ((W.looks_findIn X ga).at (wpAny_bind (tn.at ?_))))))
  show wpAny _ _ (storeInOwnDict (.ref x) (.ref C) (.str nm tk) nm v false) _ _ _
  obtain ⟨z1, z2, z3, z4, z5, z6, z7, z8, z9, z10, z11⟩ := cd
  dsimp only at gd
  subst gd
  unfold storeInOwnDict ownDictForStores
  repeat (first | with_reducible refine HandSPX.store_in_new ?_ ?_ | with_reducible refine wpAny_loadPart_at gx ?_ | with_reducible refine ck.at ?_ | wp_step)
  · exact ⟨_, #[], _, (Heap.get?_update_ne _ _ _ _ n0.symm).trans (Heap.get?_push_at rfl rfl), rfl, fun e he => absurd he (by simp), fun _ => rfl⟩
  · intro h2 u hn hs
    have gx1 : (hp.push { cls := .type "dict", data := .dict #[] }).get? x = some { cls := .ref C, data := .fields fv } := Heap.get?_push_of_some _ gx
    refine q h2 u hp.objs.size (fun b o hb ho => ?_) (Nat.le_refl _) n0.symm ?_ hn
    · have w1 := Heap.get?_push_of_some { cls := .type "dict", data := .dict #[] } ho
      exact ((hs.2 b (Nat.ne_of_lt (Heap.lt_size ho))).trans (Heap.get?_update_ne _ _ _ _ hb)).trans w1
    · exact (hs.2 x n0).trans (Heap.get?_update_self _ gx1 rfl)
end
end Rv
namespace Rv
open PySem PySem.Spec PyProof.Rows L2
/-- an own exception class, directly or not under the standard class B -/
structure OexG (K : PySem.W.Frag) (C : Addr) (B newId initId : String) (bmB : List Value) : Prop where
  bf : ExcBaseFacts B newId initId bmB
  cls : ∃ nm q N bs bm sn sub ab col dd k0 k1 k2 k3 k5, K.lookup C = some (excClassObj nm q C N bs bm true sn sub ab col dd k0 k1 k2 k3 k5 newId) ∧ (∀ Y : String, bm.contains (.type Y) = bmB.contains (.type Y)) ∧ Mok (.ref C :: bm)
  sa : PySem.W.findIn K (.ref C) "__setattr__" = some (some (.builtin "object.__setattr__"))
  exC : PySem.W.subIn K (.ref C) (.type "BaseException") = some true
  tyC : PySem.W.typeIn K (.ref C) = some (.type "type")
  kC : PySem.W.keepIn K (.ref C) = true
/-- B.__init__(self, ..) in such a class: nothing of it is told -/
theorem base_init {X : Cx} {pins : List (Addr × Obj)} {σ : L2.St} {H : Hp} {s : Shared} {a C : Addr} {A : Around} {E : Value → Shared → Prop} {B newId initId : String} {bmB : List Value} {us : List Value} {Q : Value → Shared → Prop} (T : OexG X.K C B newId initId bmB) (I : Inv X pins σ H s)
    (e : H a = some (exo a C none)) (hl : us.length ≤ sizeLine) (h : ∀ s2, Inv X pins σ H s2 → Q .none s2) : wpAny (model X.prog X.w) A (call (.builtin initId) (.ref a :: us)) Q E s := by
  obtain ⟨nm, q, N, bs, bm, sn, sub, ab, col, dd, k0, k1, k2, k3, k5, lk, hT, _⟩ := T.cls
  obtain ⟨ta0, ho⟩ := exo_at I.hok e
  obtain ⟨hp, g, d, t, os⟩ := s
  refine wpAny_call (PySem.HandSPX.init_base T.bf hT (I.kIn _ _ lk) ho hl fun h2 t2 kk hx => ?_)
  have J := I.write (t' := t) (x := a) (e := a) (o := exo a C none) (by rw [e]; exact True.intro) (.inl rfl) kk ⟨_, hx⟩ (exo_ok hx)
  have same : upd H a (exo a C none) = H := by
    funext b
    by_cases z : b = a
    · rw [z, upd_same, e]
    · rw [upd_ne z]
  rw [same] at J
  exact h _ J
theorem mok_ref {C : Addr} {m : List Value} (h : Mok m) : Mok (.ref C :: m) := ⟨fun self => by rw [refuseLoop_ref]; exact h.ps self, rfl, by rw [List.contains_cons, h.ob, Bool.or_true]⟩
theorem mok_ve : Mok [.type "ValueError", .type "Exception", .type "BaseException", .type "object"] := ⟨fun self => F.store_ValueError.passes self, rfl, by decide +kernel⟩
section
variable {X : Cx} {pins : List (Addr × Obj)} {σ : L2.St} {H : Hp} {s : Shared} {a C : Addr} {f : Str} {y : V} {u : Value} {Q : Unit → Shared → Prop} {E : Value → Shared → Prop} {A : Around} {B newId initId : String} {bmB : List Value}
/-- self.f = y, the first field -/
theorem first_field (T : OexG X.K C B newId initId bmB) (I : Inv X pins σ H s) (e : H a = some (exo a C none)) (no : PySem.W.findIn X.K (.ref C) f = some none) (ry : RelV y u)
    (h : ∀ dx s2, H dx = none → dx ≠ a → Inv X pins σ (upd (upd H dx (exd dx [(f, y)])) a (exo a C (some dx))) s2 → Q () s2) : wpAny (model X.prog X.w) A (setAttr (.ref a) f u) Q E s := by
  obtain ⟨nm, q, N, bs, bm, sn, sub, ab, col, dd, k0, k1, k2, k3, k5, lk, _, mk⟩ := T.cls
  have ci : PySem.W.clsIn X.K C = some { name := nm, bases := bs, mro := .ref C :: bm, ns := N, qualname := q, hasDict := true, slotNames := sn, subclasses := sub, abstract := ab, collection := col, hasDel := false } := by
    unfold PySem.W.clsIn
    rw [lk] <;> rfl
  obtain ⟨ta0, ho⟩ := exo_at I.hok e
  obtain ⟨hp, g, d, t, os⟩ := s
  refine PySem.W.set_plain I.kIn (ox := { cls := .ref C, dict := none, data := .fields #[.ref ta0, .none, .none, .none, .bool false, .none] }) (od := none) ⟨ho, rfl, rfl, trivial⟩ T.sa ?_
  refine set_first I.kIn ho ci mk rfl no fun h2 tk2 dx kk dn dne hx hn => ?_
  have fr : H dx = none := I.hok.fresh dn
  have nd : ∀ {b : Addr} {o : Obj}, hp.get? b = some o → b ≠ dx := fun {b o} z => Nat.ne_of_lt (Nat.lt_of_lt_of_le (Heap.lt_size z) dn)
  have na : ∀ {b : Addr}, H b = none → b ≠ a := fun {b} n z => by
    rw [z, e] at n
    cases n
  have U : Un X.fs [] H (upd (upd H dx (exd dx [(f, y)])) a (exo a C (some dx))) hp h2 := {
    keep := fun b o z n _ _ => kk b o (na n) z
    slot := fun b o z n _ _ => ⟨o.slots, kk b o (na n) z⟩
    free := fun b o z n _ => by
      rw [upd_ne (na n), upd_ne (nd z)]
      exact n
    there := fun b o z _ => by
      by_cases w : b = a
      · exact ⟨_, by rw [w]; exact hx⟩
      · exact ⟨o, kk b o w z⟩
    tups := fun b xs z => by
      rw [upd_ne (at_ne e z exo_tup), upd_ne (ne_of_none z fr)]
      exact z
    frzs := fun b o v z => by
      rw [upd_ne (at_ne e z exo_frz), upd_ne (ne_of_none z fr)]
      exact z
    tbls := fun b ps z => ⟨#[], by rw [upd_ne (at_ne e z exo_tbl), upd_ne (ne_of_none z fr), z]; simp⟩ }
  refine h dx _ fr dne (I.un (t' := tk2) U fun b o z => ?_)
  by_cases w : b = a
  · subst w
    rw [upd_same] at z
    cases z
    exact exo_ok hx
  · rw [upd_ne w] at z
    by_cases w2 : b = dx
    · subst w2
      rw [upd_same] at z
      cases z
      exact exd_ok hn (relO_put (fs := []) ry fun _ => True.intro)
    · rw [upd_ne w2] at z
      refine (I.hok b o z).stay (fun c v c0 zz => kk c v ?_ zz) (fun c c0 => ?_) (fun c xs c0 => ?_)
      · rcases c0 with c0 | c0
        · rw [c0]
          exact w
        · exact at_ne e c0 exo_own
      · rw [upd_ne (at_ne e c0 exo_own), upd_ne (ne_of_none c0 fr)]
        exact c0
      · rw [upd_ne (at_ne e c0 exo_tup), upd_ne (ne_of_none c0 fr)]
        exact c0
end
/-! readings and rules -/
/-- Base.__init__(self, ..) by the standard initId -/
def tBaseI (K : PySem.W.Frag) (C : Addr) (B newId initId : String) (bmB : List Value) (ta : TA) : TE := fun σ H Q => ta σ H fun vs H1 => ∃ (a : Addr) (ws : List V), vs = .ref a :: ws ∧ ws.length ≤ 1000 ∧ OexG K C B newId initId bmB ∧ H1 a = some (exo a C none) ∧ Q .non H1
/-- self.f = e, the first field of it -/
def tFst (K : PySem.W.Frag) (C : Addr) (B newId initId : String) (bmB : List Value) (f : Str) (to te : TE) : TS := fun D σ H => te σ H fun y H1 => to σ H1 fun x H2 => ∃ a : Addr, x = .ref a ∧ OexG K C B newId initId bmB ∧ PySem.W.findIn K (.ref C) f = some none ∧
  H2 a = some (exo a C none) ∧ ∀ dx, H2 dx = none → dx ≠ a → D.nx σ (upd (upd H2 dx (exd dx [(f, y)])) a (exo a C (some dx)))
theorem ps_fst {X : Cx} {o e : Expr} {to te : TE} {f : Str} {p2 pos : Pos} {C : Addr} {B newId initId : String} {bmB : List Value} (ho : PE X o to) (he : PE X e te) (hs : swapsWith e (some (.Attribute o f p2)) pos.line X.env = pure false := by rfl) : PS X (.Assign [.Attribute o f p2] e pos) (tFst X.K C B newId initId bmB f to te) := by
  refine ⟨fun pins s σ H D I h => plainObj_wpAny_Assign_Attribute (thn (he.run pins s σ H _ I h) fun v s1 z1 => ?_) hs⟩
  obtain ⟨y, H1, I1, r1, q1⟩ := z1
  refine thn (ho.run pins s1 σ H1 _ I1 q1) fun u s2 z2 => ?_
  obtain ⟨x, H2, I2, r2, a, ex, T, no, ea, q⟩ := z2
  subst ex
  have e0 : u = Value.ref a := r2
  subst e0
  exact first_field T I2 ea no r1 fun dx s3 n ne J => ⟨σ, _, J, q dx n ne⟩
/-- what the top has made of an own Base without an __init__ -/
structure BaseG (K : PySem.W.Frag) (D : Addr) (initId : String) : Prop where
  rd : PySem.W.readsIn K D (.type "type") = true
  ga : PySem.W.specialIn K (.ref D) "__getattribute__" = some (some (.builtin "type.__getattribute__"))
  vi : PySem.W.findCls K (.ref D) (.type "type") "__init__" = some (.val (.builtin initId))
  hi : PySem.W.handedIn (.builtin initId) = true
theorem pe_ownbaseG {X : Cx} {e : Expr} {es : List Expr} {ta : TA} {D C : Addr} {bx : Str} {p1 p2 pos : Pos} {pl : Sem Bool} {B newId initId : String} {bmB : List Value} (T : BaseG X.K D initId) (hg : Gl X bx) (hm : X.mg bx = some (.ref D)) (ha : PA X (e :: es) ta) (hdb : (bx == ("__debug__" : Str)) = false := by decide)
    (hc : eval (.Call (.Attribute (.Name bx p1) "__init__" p2) (e :: es) [] pos) X.env = (do let ov ← eval (.Name bx p1) X.env; standAt p2.atName; let (f, first) ← holding [ov] (getMethod ov "__init__" pl); callWith pos f first (backTo pos (starEach (e :: es) X.env)) (backToKw pos (keywordEach [] X.env))) := by rfl)
    (he : starEach (e :: es) X.env = (false, eval e X.env) :: starEach es X.env := by rfl) (hpl : (backTo pos (starEach es X.env)).any (·.1) = false := by rfl) :
    PE X (.Call (.Attribute (.Name bx p1) "__init__" p2) (e :: es) [] pos) (tBaseI X.K C B newId initId bmB ta) := by
  refine ⟨fun pins s σ H Q I h => PySem.W.methodCall_KW (ld_glob I hg hm ?_ hdb) hc⟩
  refine PySem.W.method_cls I.kIn T.ga (PySem.W.cls_value I.kIn T.rd T.vi T.hi ?_)
  show wpAny _ _ (callWith pos (Value.builtin initId) [] (backTo pos (starEach (e :: es) X.env)) []) _ _ _
  refine callWith_method1 (thn (ha.run pos pins _ σ H _ (I.tok _) h) fun us s1 z => ?_) he hpl
  obtain ⟨vs, H1, I1, r1, a, ws, ev, hl, O, ea, q⟩ := z
  subst ev
  cases r1 with
  | @cons _ u0 _ ur ra rw' =>
    have e0 : u0 = Value.ref a := ra
    subst e0
    have le : ur.length ≤ sizeLine := by
      have := Paired.length rw'
      rw [sizeLine_eq]
      omega
    exact base_init O I1 ea le fun s2 J => ⟨.non, H1, J, rfl, q⟩
/-- the heap with a new exception of the class at C, its args behind it -/
abbrev hNew (h : Heap) (us : List Value) (C : Addr) : Heap := (h.push (PySem.W.kdv_tup us)).push (PySem.HandSPX.excO C h.objs.size)
abbrev aNew (h : Heap) : Addr := h.objs.size + 1
theorem hNew_old {h : Heap} {us : List Value} {C : Addr} : ∀ b o, h.get? b = some o → (hNew h us C).get? b = some o := fun _ _ e => (Heap.get?_push_of_some _ e |> Heap.get?_push_of_some _)
theorem hNew_at {h : Heap} {us : List Value} {C : Addr} : (hNew h us C).get? (aNew h) = some (PySem.HandSPX.excO C h.objs.size) := by heap_get
/-- C(e, ..): such an exception is made, its own __init__ keeping sp -/
theorem pmk_any {X : Cx} {e : Expr} {es : List Expr} {ta : TA} {p pos : Pos} {CX : CXT} {x : Str} {C fI : Addr} {k : Nat} {fd : FuncData} {ps : List Str} {sp : Sp} {ds : List Value} {dvs : List V} {B newId initId : String} {bmB : List Value} (T : OexG X.K C B newId initId bmB)
    (iC : PySem.W.findIn X.K (.ref C) "__init__" = some (some (.ref fI))) (tI : PySem.W.typeIn X.K (.ref fI) = some (.type "function")) (F1 : FnOk X.prog X.w X.K X.mg X.base CX k fI fd ps sp) (hr : Room (k + 1) X.A) (hb : Binds X.K fd ps ds) (hd : Vals dvs ds)
    (hx : Passes CX X (fun _ _ _ => False)) (hg : Gl X x) (hm : X.mg x = some (.ref C)) (ha : PA X (e :: es) ta) (hdb : (x == ("__debug__" : Str)) = false := by decide)
    (he : starEach (e :: es) X.env = (false, eval e X.env) :: starEach es X.env := by rfl) (hpl : (backTo pos (starEach es X.env)).any (·.1) = false := by rfl) : PMk X (.Call (.Name x p) (e :: es) [] pos) (tMkO C sp dvs ta) := by
  intro pins s σ H Q I h
  obtain ⟨nm, q, N, bs, bm, sn, sub, ab, col, dd, k0, k1, k2, k3, k5, lk, hT, _⟩ := T.cls
  refine wpAny_Call_Name_kw (ld_glob I hg hm ?_ hdb) |> id
  refine PySem.W.callWith_K (h₀ := X.base) I.ok.mod.kin T.kC (thn (ha.run pos pins s σ H _ I h) fun us s1 z => ?_) he hpl
  obtain ⟨vs, H1, I1, rv0, hz, q1⟩ := z
  refine ⟨I1.kIn, (?_ : wpAny _ _ (call (.ref C) us) _ _ _)⟩
  obtain ⟨hp, g0, d0, u0, o0⟩ := s1
  have up1 : hp.objs.size ≤ aNew hp := Nat.le_succ _
  have free1 : H1 (aNew hp) = none := I1.hok.fresh up1
  have want := q1 (aNew hp) free1
  have I2 : Inv X pins σ (upd H1 (aNew hp) (exo (aNew hp) C none)) ⟨hNew hp us C, g0, d0, u0, o0⟩ := I1.laid (t' := u0) (o := exo (aNew hp) C none) hNew_old up1 (exo_ok hNew_at)
  have rel2 : Vals (.ref (aNew hp) :: (vs ++ dvs)) (.ref (aNew hp) :: (us ++ ds)) := .cons rfl (rv0.append hd)
  have len2 : (Value.ref (aNew hp) :: us ++ ds).length = ps.length := (rel2.length.symm).trans (F1.len _ _ _ _ want)
  have lu : us.length ≤ sizeLine := by
    have := Paired.length rv0
    rw [sizeLine_eq]
    omega
  refine wpAny_call (PySem.HandSPX.call_own T.bf hT (I1.kIn _ _ lk) (PySem.W.looks_findIn I1.kIn iC) (fun self => PySem.W.bind_fn I1.kIn self tI) lu (codeAny_mono (F1.run _ X.stack _ _ ⟨.ref (aNew hp) :: us, []⟩ (.ref (aNew hp) :: (us ++ ds)) _ _ (fun _ _ _ => False)
    (hr.make C us []) (I2.env0.make C us []) (hb _ (.ref (aNew hp) :: us) I2.kIn len2) rel2 want) fun r s2 back => ?_))
  match r, back with
  | .error er, back => exact hx pins σ _ _ er s2 I2 back
  | .ok (.ret _), ⟨v, H2, os2, bare2, un2, hok2, rv, ev, d, fs, ea, ed, hd1, q2⟩ =>
    subst ev
    obtain ⟨h2, g2, d2, t2, os'⟩ := s2
    exact ⟨rv, mk_end (raises_own T.exC T.tyC) I1 up1 hNew_old un2 hok2 os2 bare2 ea ed hd1 q2⟩
  | .ok .next, back => exact back.elim
  | .ok .brk, back => exact back.elim
  | .ok .cont, back => exact back.elim
end Rv
/-! A test of the written part: is the class at C such an exception class. -/
namespace Rv
open PySem PySem.Spec PyProof.Rows L2
theorem tl_ok {bmB : List Value} (h0 : Mok bmB) : ∀ l : List Value, tlB bmB l = true → Mok l ∧ ∀ Y : String, l.contains (.type Y) = bmB.contains (.type Y)
  | .ref c :: r, e => by
    obtain ⟨z1, z2⟩ := tl_ok h0 r (show tlB bmB r = true from e)
    refine ⟨mok_ref z1, fun Y => ?_⟩
    rw [List.contains_cons, z2]
    rfl
  | [], e => by
    have z : [] = bmB := of_decide_eq_true e
    subst z
    exact ⟨h0, fun _ => rfl⟩
  | .none :: r, e => by have z := of_decide_eq_true (show decide (_ = bmB) = true from e); subst z; exact ⟨h0, fun _ => rfl⟩
  | .ellipsis :: r, e => by have z := of_decide_eq_true (show decide (_ = bmB) = true from e); subst z; exact ⟨h0, fun _ => rfl⟩
  | .notImplemented :: r, e => by have z := of_decide_eq_true (show decide (_ = bmB) = true from e); subst z; exact ⟨h0, fun _ => rfl⟩
  | .bool _ :: r, e => by have z := of_decide_eq_true (show decide (_ = bmB) = true from e); subst z; exact ⟨h0, fun _ => rfl⟩
  | .int _ _ :: r, e => by have z := of_decide_eq_true (show decide (_ = bmB) = true from e); subst z; exact ⟨h0, fun _ => rfl⟩
  | .float _ _ :: r, e => by have z := of_decide_eq_true (show decide (_ = bmB) = true from e); subst z; exact ⟨h0, fun _ => rfl⟩
  | .str _ _ :: r, e => by have z := of_decide_eq_true (show decide (_ = bmB) = true from e); subst z; exact ⟨h0, fun _ => rfl⟩
  | .bytes _ _ :: r, e => by have z := of_decide_eq_true (show decide (_ = bmB) = true from e); subst z; exact ⟨h0, fun _ => rfl⟩
  | .type _ :: r, e => by have z := of_decide_eq_true (show decide (_ = bmB) = true from e); subst z; exact ⟨h0, fun _ => rfl⟩
  | .builtin _ :: r, e => by have z := of_decide_eq_true (show decide (_ = bmB) = true from e); subst z; exact ⟨h0, fun _ => rfl⟩
theorem cx_ok {K : PySem.W.Frag} {C : Addr} {newId : String} {bmB : List Value} (h0 : Mok bmB) (h : cxB K C newId bmB = true) :
    ∃ nm q N bs bm sn sub ab col dd k0 k1 k2 k3 k5, K.lookup C = some (excClassObj nm q C N bs bm true sn sub ab col dd k0 k1 k2 k3 k5 newId) ∧ (∀ Y : String, bm.contains (.type Y) = bmB.contains (.type Y)) ∧ Mok (.ref C :: bm) := by
  unfold cxB at h
  split at h
  · rename_i m dd z sl lk
    obtain ⟨e1, h⟩ := He.ba h
    have e1 := of_decide_eq_true e1
    subst e1
    split at h
    · rename_i D r j0 j1 j2 j3 n j5 hm hs
      obtain ⟨_, h⟩ := He.ba h
      obtain ⟨e2, h⟩ := He.ba h
      obtain ⟨e3, h⟩ := He.ba h
      obtain ⟨e4, h⟩ := He.ba h
      obtain ⟨e5, e6⟩ := He.ba h
      have e2 := of_decide_eq_true e2
      have e3 := of_decide_eq_true e3
      subst e2 e3
      obtain ⟨w1, w2, w3, w4, w5, w6, w7, w8, w9, w10, w11⟩ := z
      dsimp only at hm e4 e5
      have e4 : w11 = false := by
        cases w11 with
        | false => rfl
        | true => cases e4
      subst hm e4 e5
      have e7 : sl = #[j0, j1, j2, j3, some (.builtin n), j5] := by
        obtain ⟨l⟩ := sl
        simp only at hs
        rw [hs]
      subst e7
      obtain ⟨y1, y2⟩ := tl_ok h0 r e6
      exact ⟨_, _, _, _, r, _, _, _, _, _, _, _, _, _, _, lk, y2, mok_ref y1⟩
    · cases h
  · cases h
theorem ox_ok {K : PySem.W.Frag} {x : Str} {B newId initId : String} {bmB : List Value} (bf : ExcBaseFacts B newId initId bmB) (h0 : Mok bmB) (h : oxB K x newId bmB = true) : OexG K (He.ga K x) B newId initId bmB := by
  obtain ⟨h1, h⟩ := He.ba h
  obtain ⟨h2, h⟩ := He.ba h
  obtain ⟨h3, h⟩ := He.ba h
  obtain ⟨h4, h5⟩ := He.ba h
  exact ⟨bf, cx_ok h0 h1, He.eqO_ok h2, of_decide_eq_true h3, of_decide_eq_true h4, h5⟩
theorem bg_ok {K : PySem.W.Frag} {x : Str} {i : String} (h : bgB K x i = true) : BaseG K (He.ga K x) i := by
  obtain ⟨h1, h⟩ := He.ba h
  obtain ⟨h2, h⟩ := He.ba h
  obtain ⟨h3, h4⟩ := He.ba h
  refine ⟨h1, He.eqO_ok h2, ?_, h3⟩
  cases e : PySem.W.findCls K (.ref (He.ga K x)) (.type "type") "__init__" with
  | none =>
    rw [e] at h4
    cases h4
  | some f =>
    rw [e] at h4
    cases f with
    | val v =>
      cases v with
      | builtin n =>
        have z : n = i := of_decide_eq_true h4
        rw [z]
      | _ => cases h4
    | _ => cases h4
end Rv
namespace Rv
open PySem PySem.Spec PyProof.Rows L2
/-! exceptions of own classes: raised in defs, caught in the law -/
theorem passE0 {X : Cx} : Passes (L2.CX X.prog X.w) X E0 := fun _ _ _ _ _ _ _ c => by
  obtain ⟨_, _, _, _, _, _, _, _, _, _, _, _, z⟩ := c
  exact z.elim
theorem takesF {X : Cx} : Takes X fun _ _ _ _ => False := fun u s' x => by
  obtain ⟨_, _, _, _, _, _, _, _, _, _, _, _, _, _, _, _, w⟩ := x
  exact w.elim
/-- raise e -/
def tRaise (t : L2.St → Hp → XK → Prop) (E : XK) : TS := fun _ σ H => t σ H fun cls d H' => E cls d H'
theorem ps_raiseE {X : Cx} {E : XK} {e : Expr} {t : L2.St → Hp → XK → Prop} {pos : Pos} (he : PMk X e t) (tk : Takes X fun cls d _ H => E cls d H) (hc : X.calm = true := by rfl) : PS X (.Raise (some e) none pos) (tRaise t E) := ps_raise hc tk he
/-- an own exception class with its __init__ -/
structure CalX (P : Program) (w : World) (K : PySem.W.Frag) (mg : Str → Option Value) (base : Heap) (CX : CXT) (k : Nat) (x : Str) (C : Addr) (ps : List Str) (sp : Sp) (dvs : List V) (B newId initId : String) (bmB : List Value) : Prop where
  ex : ∃ f fd ds, FnOk P w K mg base CX k f fd ps sp ∧ OexG K C B newId initId bmB ∧ PySem.W.findIn K (.ref C) "__init__" = some (some (.ref f)) ∧ PySem.W.typeIn K (.ref f) = some (.type "function") ∧ mg x = some (.ref C) ∧ Binds K fd ps ds ∧ Vals dvs ds
theorem pmk_cal {X : Cx} {CX : CXT} {k : Nat} {x : Str} {C : Addr} {ps : List Str} {sp : Sp} {dvs : List V} {B newId initId : String} {bmB : List Value} {e : Expr} {es : List Expr} {ta : TA} {p pos : Pos} (c : CalX X.prog X.w X.K X.mg X.base CX k x C ps sp dvs B newId initId bmB) (hr : Room (k + 1) X.A) (hx : Passes CX X (fun _ _ _ => False)) (hg : Gl X x) (ha : PA X (e :: es) ta)
    (hdb : (x == ("__debug__" : Str)) = false := by decide) (he : starEach (e :: es) X.env = (false, eval e X.env) :: starEach es X.env := by rfl) (hpl : (backTo pos (starEach es X.env)).any (·.1) = false := by rfl) : PMk X (.Call (.Name x p) (e :: es) [] pos) (tMkO C sp dvs ta) := by
  obtain ⟨f, fd, ds, F, T, iC, tI, hm, hb, hd⟩ := c.ex
  exact pmk_any T iC tI F hr hb hd hx hg hm ha hdb he hpl
/-! .. at the state in which the call stands -/
/-- try .. except c as n -/
def tTryAs (K : PySem.W.Frag) (c : Value) (i : Nat) (tb : WX → TS) (ts : Addr → Value → Option Addr → TS) (Wout : WX) : TS := fun D σ H => tb (wAs K c i ts Wout D) D σ H
/-- what is asked of a class by isinstance(e, ..), e with a dict -/
def rIsD (K : PySem.W.Frag) (D a : Addr) (cls : Value) (d : Option Addr) : List V → Hp → VK → Prop := fun xs H Q => cls = .ref D ∧ ∃ (c : V) (cv : Value) (b : Bool) (dd : Addr) (fs : List (Str × V)), xs = [.ref a, c] ∧ (∀ u, RelV c u → u = cv) ∧ d = some dd ∧ H dd = some (.xd fs) ∧ PySem.W.kitOne K (.ref D) cv = some b ∧ Q (.bl b) H
theorem call_isD {X : Cx} {a D : Addr} {oe : Obj} {cls : Value} {d : Option Addr} {pn : List (Addr × Obj)} (C : ExcC X.K D) (hz : Zc cls d oe) (hf : ∃ vs, oe.data = .fields vs) : CallR (X.suite a ((a, oe) :: pn)) (.builtin "isinstance") (rIsD X.K D a cls d) := by
  intro pins s σ H xs us Q I r h
  obtain ⟨ec, c, cv, b, dd, fs, rfl, hcv, ed, ea, e, q⟩ := h
  subst ec
  cases r with
  | cons rx rr =>
    cases rr with
    | cons rt rr =>
      cases rr
      cases rx
      have ec := hcv _ rt
      subst ec
      obtain ⟨hget, _⟩ := I.pin (a, oe) (List.mem_append.mpr (.inl List.mem_cons_self))
      obtain ⟨vs, hv⟩ := hf
      have hx : ObjOk X.prog X.w H s.heap dd (.xd fs) := I.hok dd _ ea
      obtain ⟨mA, hns, hr⟩ := hx
      obtain ⟨od, ho, hl⟩ := lookIn_ns hns
      have J : PySem.W.InstAt s.heap a oe D (some od) := ⟨hget, hz.1, by unfold PySem.W.notCls; rw [hv] <;> rfl, by rw [hz.2, ed]; exact ho⟩
      exact PySem.W.kia_one (PySem.W.kitx_exc (by obtain ⟨cd, hc, _⟩ := PySem.W.any_some C.hd; rw [hc]; rfl) C.hg C.hk C.hs C.ha C.hn C.ht C.hm) I.kIn J e (fun z => nomatch z) fun tk => ⟨.bl b, H, I.kept (t' := tk) fun _ _ z => z, rfl, q⟩
/-- an own exception's __init__(self, v): its one field is set -/
def spExc (K : PySem.W.Frag) (C : Addr) (B newId initId : String) (bmB : List Value) (f : Str) : Sp := fun vs H Q _ => ∃ p v, vs = [.ref p, v] ∧ OexG K C B newId initId bmB ∧ PySem.W.findIn K (.ref C) f = some none ∧ H p = some (exo p C none) ∧
  ∀ dx, H dx = none → dx ≠ p → Q .non (upd (upd H dx (exd dx [(f, v)])) p (exo p C (some dx)))
/-- what a new exception brings -/
theorem exc_new {K : PySem.W.Frag} {C : Addr} {B newId initId : String} {bmB : List Value} {f : Str} {H : Hp} {XQ : XK} {v : V} (T : OexG K C B newId initId bmB) (no : PySem.W.findIn K (.ref C) f = some none)
    (k : ∀ d H', H d = none → Same H H' → H' d = some (.xd [(f, v)]) → XQ (.ref C) (some d) H') :
    [v].length ≤ 1000 ∧ ∀ a, H a = none → spExc K C B newId initId bmB f (.ref a :: ([v] ++ [])) (upd H a (exo a C none))
      (fun v H2 => v = .non ∧ ∃ (d : Addr) (fs : List (Str × V)), H2 a = some (exo a C (some d)) ∧ H2 d = some (exd d fs) ∧ H d = none ∧ XQ (.ref C) (some d) (upd (del H2 a) d (.xd fs))) (fun _ _ _ => False) := by
  refine ⟨by show 1 ≤ 1000; decide, fun a na => ⟨a, v, rfl, T, no, upd_same, fun dx nd ne => ⟨rfl, dx, [(f, v)], upd_same, ?_, ?_, ?_⟩⟩⟩
  · rw [upd_ne ne, upd_same]
  · rw [upd_ne ne] at nd
    exact nd
  · rw [upd_ne ne] at nd
    refine k dx _ nd (fun b o hb => ?_) upd_same
    have n1 : b ≠ dx := ne_of_none hb nd
    have n2 : b ≠ a := ne_of_none hb na
    rw [upd_ne n1]
    show del (upd (upd (upd H a _) dx _) a _) a b = some o
    unfold del
    rw [if_neg n2, upd_ne n2, upd_ne n1, upd_ne n2]
    exact hb
theorem ec_of {K : PySem.W.Frag} {x : Str} (h : ecB K x = true) : ExcC K (He.ga K x) := by
  obtain ⟨h1, h⟩ := He.ba h
  obtain ⟨h2, h⟩ := He.ba h
  obtain ⟨h3, h⟩ := He.ba h
  obtain ⟨h4, h⟩ := He.ba h
  obtain ⟨h5, h⟩ := He.ba h
  obtain ⟨h6, h⟩ := He.ba h
  obtain ⟨h7, h8⟩ := He.ba h
  exact ⟨He.eqO_ok h1, He.eqO_ok h2, of_decide_eq_true h3, h4, He.eqO_ok h5, He.eqO_ok h6, of_decide_eq_true h7, of_decide_eq_true h8⟩
theorem p_exc {K : PySem.W.Frag} {C : Addr} {B newId initId : String} {bmB : List Value} {f : Str} {vs : List V} {H : Hp} {Q : VK} {E : XK} (m : Str) (h : spExc K C B newId initId bmB f vs H Q E) {N : List Str} (hN : ∀ p v, start N [.ref p, v] = [some (V.ref p), some v]) :
    tSeq (tDrop (tBaseI K C B newId initId bmB (tCons (tVar 0) (tCons (tC (.str m)) tNil)))) (tFst K C B newId initId bmB f (tVar 0) (tVar 1)) { nx := fun _ H' => Q .non H', rt := Q } (start N vs) H := by
  obtain ⟨p, v, rfl, T, no, hp, k⟩ := h
  rw [hN]
  refine w_seqD ?_
  refine ⟨_, rfl, ?_⟩
  refine ⟨p, [.str m], rfl, by show 1 ≤ 1000; decide, T, hp, ?_⟩
  refine ⟨_, rfl, ?_⟩
  refine ⟨_, rfl, ?_⟩
  exact ⟨p, rfl, T, no, hp, fun dx nd ne => k dx nd ne⟩
theorem w_raise {t : L2.St → Hp → XK → Prop} {E : XK} {D : Ends} {σ : L2.St} {H : Hp} (q : t σ H fun cls d H' => E cls d H') : tRaise t E D σ H := q
theorem w_mkO {C : Addr} {sp : Sp} {dvs : List V} {ta : TA} {σ : L2.St} {H : Hp} {Q : XK} (q : ta σ H fun vs H1 => vs.length ≤ 1000 ∧ ∀ a, H1 a = none → sp (.ref a :: (vs ++ dvs)) (upd H1 a (exo a C none))
  (fun v H2 => v = .non ∧ ∃ (d : Addr) (fs : List (Str × V)), H2 a = some (exo a C (some d)) ∧ H2 d = some (exd d fs) ∧ H1 d = none ∧ Q (.ref C) (some d) (upd (del H2 a) d (.xd fs))) (fun _ _ _ => False)) : tMkO C sp dvs ta σ H Q := q
end Rv
namespace Rv
open PySem PySem.Spec PyProof.Rows L2
end Rv
/-! try with several clauses 'except C as n' of one name n. -/
namespace Rv
open PySem PySem.Spec PyProof.Rows L2
end Rv
/-! Own defs that are called while an exception is handled (they raise nothing themselves), and repr there. -/
namespace Rv
open PySem PySem.Spec PyProof.Rows L2 L2H
/-- the context of such a def's body -/
def cxC (P : Program) (w : World) (K : PySem.W.Frag) (mg : Str → Option Value) (base : Heap) (N : List Str) (qual : Str) (scope : Scope) (f : Addr) (cd : Value) (A : Around) (outer : List Env) (s : Shared) (H : Hp) (E : XK) : Cx :=
  { cxOf CX0 P w K mg base N qual scope f cd A outer s H E with calm := false }
/-- what such a def promises -/
structure FnC (P : Program) (w : World) (K : PySem.W.Frag) (mg : Str → Option Value) (base : Heap) (k : Nat) (f : Addr) (fd : FuncData) (ps : List Str) (sp : Sp) : Prop where
  len : ∀ vs H Q E, sp vs H Q E → vs.length = ps.length
  run : ∀ (A : Around) (outer : List Env) (s : Shared) (H : Hp) (args : Args) (us : List Value) (vs : List V) (Q : VK) (E : XK), RoomH k A → Env0 P w K mg base A outer s H → BindsTo s fd args (ps.zip us) → Vals vs us → sp vs H Q E →
    codeAny (model P w) A (.call (.ref f) args) (CR CX0 outer P w H s Q E) s
theorem Env0.unmark {P : Program} {w : World} {K : PySem.W.Frag} {mg : Str → Option Value} {base : Heap} {A : Around} {outer : List Env} {s : Shared} {H : Hp} (e : Env0 P w K mg base A outer s H) : Env0 P w K mg base { A with handled := none } outer s H := by
  constructor
  · exact e.frames
  all_goals first
    | exact e.mod
    | exact e.bs
    | exact e.bsz
    | exact e.bare
    | exact e.hok
    | exact e.funs
    | exact e.frf
theorem FunD.okC {P : Program} {w : World} {K : PySem.W.Frag} {mg : Str → Option Value} {base : Heap} {k : Nat} {f : Addr} {fd : FuncData} {N ps : List Str} {sp : Sp} {x qual : Str} {params : Arguments} {body : List Stmt} {scope : Scope} {dvs : List V} {kws : List (Str × V)}
    (F : FunD K x qual params body scope dvs kws f fd) (S : FnScope N ps scope) (len : ∀ vs H Q E, sp vs H Q E → vs.length = ps.length)
    (hbody : ∀ (cdv : Value) (A : Around) (outer : List Env) (s : Shared) (H : Hp) (vs : List V) (Q : VK) (E : XK), sp vs H Q E →
      ∃ t, PSs (cxC P w K mg base N qual scope f cdv A outer s H E) body t ∧ t { nx := fun _ H' => Q .non H', rt := Q } (start N vs) H) : FnC P w K mg base (k + 1) f fd ps sp := by
  obtain ⟨oc, od, dV, kV, doc, pm, an, cdv, ct, osl, rfl, lk, hcd, _, _⟩ := F.ex
  refine ⟨len, fun A outer s H args us vs Q E hr e0 hb r hsp => ?_⟩
  have hl := len _ _ _ _ hsp
  have KX : K.In s.heap := e0.mod.kin.keeps fun b o e => (e0.bs b o e).1
  have lim : s.heap.NoLimit := e0.mod.nolimit.keeps fun b o e => (e0.bs b o e).1
  refine codeAny_call_function hr.depth (KX _ _ lk) rfl S.co S.gen rfl (PySem.W.codeRec_of KX hcd) (hb _ _ _ _ (wpAny_newFunctionEnv_cells S.kind ?_ fun env he s1 x1 => ?_))
  · rintro ⟨n, v⟩ hy
    rcases S.par n (List.of_mem_zip hy).1 with q | q
    · exact .inl q
    · exact .inr ⟨q, PySem.W.cellsFrom_some _ _ _ (.inl q)⟩
  subst he
  refine ⟨lim.keeps x1.toInCall.keep, codeAny_func ?_⟩
  obtain ⟨t, ht, hq⟩ := hbody cdv A outer s H vs Q E hsp
  have I0 := inv_start (CX := CX0) (E := E) (A := { A with handled := none }) S rfl (Env0.unmark e0) hl r x1
  have I : Inv (cxC P w K mg base N qual scope f cdv A outer s H E) [] (start N vs) H s1 :=
    ⟨⟨I0.ok.mod, I0.ok.kind, I0.ok.glob, I0.ok.blt, I0.ok.above, I0.ok.inj, I0.ok.has, I0.ok.cab, (fun z => Bool.noConfusion (show false = true from z)), Around.frames_deeper e0.frames, I0.ok.stk, I0.ok.exf, I0.ok.bs, I0.ok.bsz, I0.ok.noex, I0.ok.exfs, I0.ok.funs, I0.ok.frf⟩,
      I0.os, I0.bare, I0.base, I0.loc, I0.cell, I0.free, I0.freeC, I0.pin, I0.hok, I0.len⟩
  refine wpAny_mono (ht.run [] s1 (start N vs) H _ I hq) (fun fl s' hs => ?_) fun e s' hs => hs
  cases fl with
  | ret u =>
    obtain ⟨v, σ', H', J, rv, q⟩ := hs
    exact ⟨v, H', J.os, J.bare, J.base, J.hok, rv, q⟩
  | next =>
    obtain ⟨σ', H', J, q⟩ := hs
    exact ⟨.non, H', J.os, J.bare, J.base, J.hok, rfl, q⟩
  | brk =>
    obtain ⟨_, _, _, q⟩ := hs
    exact q.elim
  | cont =>
    obtain ⟨_, _, _, q⟩ := hs
    exact q.elim
/-- the class at C has a def of one parameter under the name nm, also told of callers that handle an exception -/
structure CalUC (P : Program) (w : World) (K : PySem.W.Frag) (mg : Str → Option Value) (base : Heap) (k : Nat) (C : Addr) (nm : Str) (sp : Sp) : Prop where
  ex : ∃ f fd, FnC P w K mg base k f fd ["self"] sp ∧ PySem.W.findIn K (.ref C) nm = some (some (.ref f)) ∧ PySem.W.isFn K (.ref f) = true ∧ Binds K fd ["self"] []
theorem roomH_in1 {k : Nat} {A : Around} (r : RoomH (k + 1) A) : RoomH k A.in1 :=
  ⟨by have := r.dp; show A.depth + 3 * k + 5 < _; omega, by have := r.un; show A.units + 1 + 16 * k + 200 < _; omega⟩
/-- repr of a value of any kind: built-in data, or an instance of the class at C -/
def cReprA (K : PySem.W.Frag) (C : Addr) (sp : Sp) : List V → Hp → VK → Prop := fun xs H Q => ∃ v, xs = [v] ∧
  ((∃ d, Dp K H v d ∧ d.showable = true ∧ d.hasDict = false ∧ d.depth ≤ 10 ∧ d.shown.length ≤ sizeLine ∧ Q (.str d.shown) H) ∨
   ∃ a dx fs, v = .ref a ∧ H a = some (.ins C dx fs) ∧ sp [.ref a] H (fun z H' => ∃ y, z = .str y ∧ Q (.str y) H') E0)
theorem call_reprA {X : Cx} {k : Nat} {C : Addr} {sp : Sp} (c : CalUC X.prog X.w X.K X.mg X.base k C "__repr__" sp) (hg : X.A.guards = some []) (hr : RoomH (k + 1) X.A) : CallR X (.builtin "repr") (cReprA X.K C sp) := by
  intro pins s σ H xs us Q I r h
  obtain ⟨v, rfl, h⟩ := h
  obtain ⟨u, rfl, ru⟩ := vals1 r
  have hu := hr.un
  rcases h with ⟨d, hd, sh, nd, dp, sz, q⟩ | ⟨a, dx, fs, rfl, ha, q⟩
  · have go : ∀ {b : Addr}, Dp X.K H (.ref b) d → wpAny (model X.prog X.w) X.A (call (.builtin "repr") [.ref b]) (EP X pins σ Q) X.xe s := fun {b} hb => by
      obtain ⟨as, rd⟩ := Dp.reads I d (.ref b) (.ref b) hb rfl
      exact PySem.repr_of_reads' rd sh (fun e => by rw [nd] at e; cases e) hg (by omega) (fun b o e => e) (fun h' u tk hk => ⟨.str d.shown, H, I.kept hk, ⟨_, rfl⟩, q⟩) sz
    cases hd with
    | non =>
      cases (show u = Value.none from ru)
      exact PySem.P.repr_of_none ⟨.str _, H, I.tok _, ⟨_, rfl⟩, q⟩
    | bl b =>
      cases (show u = Value.bool b from ru)
      refine PySem.P.repr_of_bool ⟨.str _, H, I.tok _, ⟨_, rfl⟩, ?_⟩
      cases b <;> exact q
    | int i =>
      obtain ⟨t, rfl⟩ := (show ∃ t, u = Value.int i t from ru)
      refine PySem.P.repr_of_int (by simpa [PyData.showable] using sh) ⟨.str _, H, I.tok _, ⟨_, rfl⟩, q⟩
    | str x =>
      obtain ⟨t, rfl⟩ := (show ∃ t, u = Value.str x t from ru)
      exact PySem.P.repr_of_str ⟨.str _, H, I.tok _, ⟨_, rfl⟩, q⟩ sz
    | lst h1 h2 =>
      cases (show u = Value.ref _ from ru)
      exact go (.lst h1 h2)
    | tup h1 h2 =>
      cases (show u = Value.ref _ from ru)
      exact go (.tup h1 h2)
  · cases (show u = Value.ref a from ru)
    obtain ⟨f, fd, F, hs, hf, hb⟩ := c.ex
    obtain ⟨mA, J, _⟩ := ins_get I.hok ha
    obtain ⟨od, J, _⟩ := J.look
    obtain ⟨m, hF⟩ := I.fr
    have hl := F.len _ _ _ _ q
    have r2 : Vals [V.ref a] [Value.ref a] := .cons rfl .nil
    refine PySem.W.repr_K (by have := (roomH_in1 hr).un; omega) hF I.ok.mod.kin J hs hf ?_
    refine wpAny_call (codeAny_mono (F.run X.A.in1 X.stack s H ⟨[.ref a], []⟩ [.ref a] [.ref a] _ E0 (roomH_in1 hr) I.env0.in1 (by
      have := hb s [.ref a] I.kIn (by simpa using hl)
      simpa using this) r2 q) fun r s' hq => ?_)
    cases r with
    | error e => exact hq.elim
    | ok fl =>
      cases fl with
      | ret w =>
        obtain ⟨z, H', I', rz, y, rfl, qz⟩ := I.after hq
        obtain ⟨t, rfl⟩ := (show ∃ t, w = Value.str y t from rz)
        exact ⟨.str y, H', I', ⟨t, rfl⟩, qz⟩
      | next => exact False.elim hq
      | brk => exact False.elim hq
      | cont => exact False.elim hq
end Rv
namespace Rv
open PySem PySem.Spec PyProof.Rows L2
theorem str_empty (d : Str) : Str.empty ++ d = d := by
  cases d
  show (⟨#[] ++ _⟩ : Str) = _
  simp
theorem str_len (x y : Str) : (x ++ y).length = x.length + y.length := by
  show (x.cps ++ y.cps).size = _
  rw [Array.size_append]
  rfl
theorem len_p2 : (", " : Str).length = 2 := by decide +kernel
theorem len_p3 : (")" : Str).length = 1 := by decide +kernel
def rCatS : R2 := fun x y H Q => ∃ i j, x = .str i ∧ y = .str j ∧ i.length + j.length ≤ sizeLine ∧ Q (.str (i ++ j)) H
/-- all that lies at H lies at H', but for a list at f -/
def Kx (f : Addr) (H H' : Hp) : Prop := ∀ b o, H b = some o → ((∀ xs, o ≠ .lst xs) ∨ b ≠ f) → H' b = some o
theorem Kx.refl (f : Addr) (H : Hp) : Kx f H H := fun _ _ h _ => h
theorem st_is {s : TS} {D : Ends} {σ : L2.St} (σ' : L2.St) {H : Hp} (e : σ = σ') (q : s D σ' H) : s D σ H := by
  subst e
  exact q
theorem w_makek {σ : L2.St} {H : Hp} {Q : VK} {n m : Nat} {sp : Sp} {gV : List V → List V → List V} {E : XK} {t tk : TA} {C : Addr} (q : t σ H fun vs H1 => tk σ H1 fun zs H2 => vs.length = n ∧ zs.length = m ∧ ∀ x dx, H2 x = none → H2 dx = none → dx ≠ x → sp (gV (.ref x :: vs) zs) (upd (upd H2 dx (.own x)) x (.ins C dx [])) (fun v H3 => v = .non ∧ Q (.ref x) H3) E) : tMakeK C n m sp gV E t tk σ H Q := q
theorem w_forLn {K : PySem.W.Frag} {σ : L2.St} {H : Hp} {D : Ends} {tl : TE} {s1 : TS} {g : TG} (q : tl σ H fun x H1 => ∃ a, x = .ref a ∧ tFor (iAt K a) g s1 D σ H1) : tFor (iList K tl) g s1 D σ H := q
theorem w_forLa {K : PySem.W.Frag} {σ : L2.St} {H : Hp} {D : Ends} {s1 : TS} {g : TG} {a : Addr} {xs : List V} (hx : SqL K H a xs) (Pv : Nat → L2.St → Hp → Prop) (h0 : Pv 0 σ H) (hl : ∀ i σ' H', i ≤ xs.length → Pv i σ' H' → SqL K H' a xs)
    (hs : ∀ i x σ' H', xs[i]? = some x → Pv i σ' H' → g x σ' H' fun σ2 H2 => s1 { D with nx := Pv (i + 1), ct := Pv (i + 1), bk := D.nx } σ2 H2) (hd : ∀ σ' H', Pv xs.length σ' H' → D.nx σ' H') : tFor (iAt K a) g s1 D σ H :=
  ⟨⟨xs, hx⟩, for_list Pv h0 hl hs hd⟩
def OddR (H : Hp) (v : V) : Prop := v = .non ∨ (∃ b, v = .bl b) ∨ (∃ s, v = .str s) ∨ (∃ p xs, v = .ref p ∧ H p = some (.lst xs)) ∨ (∃ p xs, v = .ref p ∧ H p = some (.tup xs)) ∨ ∃ p kvs, v = .ref p ∧ H p = some (.dK kvs)
theorem OddR.same {H H' : Hp} {v : V} (h : OddR H v) (e : Same H H') : OddR H' v := by
  rcases h with h | h | h | ⟨p, xs, h1, h2⟩ | ⟨p, xs, h1, h2⟩ | ⟨p, xs, h1, h2⟩
  · exact .inl h
  · exact .inr (.inl h)
  · exact .inr (.inr (.inl h))
  · exact .inr (.inr (.inr (.inl ⟨p, xs, h1, e _ _ h2⟩)))
  · exact .inr (.inr (.inr (.inr (.inl ⟨p, xs, h1, e _ _ h2⟩))))
  · exact .inr (.inr (.inr (.inr (.inr ⟨p, xs, h1, e _ _ h2⟩))))
local macro_rules | `(tactic| walk_at "rv st") => `(tactic| first
  | with_reducible refine iteT ?_ | with_reducible refine iteF ?_ | with_reducible refine w_nx ?_ | with_reducible refine w_yes ?_ | with_reducible refine w_rt ?_ | with_reducible refine iteNT ?_ | with_reducible refine iteNF ?_ | with_reducible refine iteNRf ?_ | with_reducible refine iteRf ?_ | with_reducible refine w_seqA ?_ | with_reducible refine w_seqD ?_ | with_reducible refine w_seqP ?_ | with_reducible refine w_asg ?_ | with_reducible refine w_ret ?_ | with_reducible refine w_drop ?_ | with_reducible refine w_ifs ?_ | with_reducible refine w_next ?_ | with_reducible refine w_par ?_
  | with_reducible refine w_op ?_ | with_reducible refine w_un ?_ | ((with_reducible show tVar _ _ _ _); refine' w_var ?hv ?_; (case hv => exact rfl)) | with_reducible refine w_c ?_ | with_reducible refine w_test ?_ | with_reducible refine w_tB ?_
  | with_reducible refine w_bl ?_ | with_reducible refine w_I0 ?_ | with_reducible refine w_U ?_ | with_reducible refine w_eqI ?_ | with_reducible refine w_neI ?_
  | with_reducible refine w_cons ?_ | with_reducible refine w_nil ?_ | with_reducible refine w_gn ?_ | with_reducible refine w_gsub ?_ | with_reducible refine w_and ?_ | with_reducible refine w_or ?_ | with_reducible refine w_not ?_
  | with_reducible refine w_andV ?_ | with_reducible refine w_orV ?_ | with_reducible refine w_notV ?_ | with_reducible refine w_if ?_ | with_reducible refine w_cb ?_ | with_reducible refine w_call ?_ | with_reducible refine w_lst ?_ | with_reducible refine w_tup ?_
  | with_reducible refine w_sl ?_ | with_reducible refine w_noPart ?_ | with_reducible refine w_part ?_ | with_reducible refine w_ex1 ?_ | with_reducible refine w_exb ?_ | with_reducible refine w_intB ?_ | with_reducible refine w_intI ?_ | with_reducible refine w_abs ?_)
local macro_rules | `(tactic| walk_at "rv ix") => `(tactic| ((with_reducible show rIxL _ _ _ _ _); refine' w_ixL (sq_lst ?ha) ?hb ?_; (case ha => first | exact upd_same | assumption); (case hb => first | exact rfl | assumption)))
local macro_rules | `(tactic| walk_at "rv ar") => `(tactic| first
  | (refine' w_I ?hc ?_; (case hc => first | (show (0 : Int) < _; first | assumption | decide | omega) | exact pow_c (by decide) (by decide) (by first | decide | omega) (by first | decide | omega) | exact mul_r (by first | decide | omega) (by first | decide | omega) | exact mul_l (by first | decide | omega) (by first | decide | omega) | exact divw (by first | assumption | decide | omega) (by first | assumption | decide | omega))))
local macro_rules | `(tactic| walk_at "rv go") => `(tactic| repeat first | walk_at "rv st" | walk_at "rv ix" | ((with_reducible show rI _ _ _ _ _ _); walk_at "rv ar"))
theorem w_meth {σ : L2.St} {H : Hp} {Q : VK} {C : Addr} {m : Str} {sp : Sp} {E : XK} {ta : TE} {tr : TA} (q : ta σ H fun x H1 => ∃ a dx fs, x = .ref a ∧ H1 a = some (.ins C dx fs) ∧ fs.lookup m = none ∧ tr σ H1 fun vs H2 => sp (x :: (vs ++ [])) H2 Q E) : tMeth C m sp [] E ta tr σ H Q := q
end Rv
namespace Rv
open PySem PySem.Spec PyProof.Rows L2
local macro_rules | `(tactic| walk_at "rv st") => `(tactic| first
  | with_reducible refine iteT ?_ | with_reducible refine iteF ?_ | with_reducible refine w_nx ?_ | with_reducible refine w_yes ?_ | with_reducible refine w_rt ?_ | with_reducible refine iteNT ?_ | with_reducible refine iteNF ?_ | with_reducible refine iteNRf ?_ | with_reducible refine iteRf ?_ | with_reducible refine w_seqA ?_ | with_reducible refine w_seqD ?_ | with_reducible refine w_seqP ?_ | with_reducible refine w_asg ?_ | with_reducible refine w_ret ?_ | with_reducible refine w_drop ?_ | with_reducible refine w_ifs ?_ | with_reducible refine w_next ?_ | with_reducible refine w_par ?_
  | with_reducible refine w_op ?_ | with_reducible refine w_un ?_ | ((with_reducible show tVar _ _ _ _); refine' w_var ?hv ?_; (case hv => exact rfl)) | with_reducible refine w_c ?_ | with_reducible refine w_test ?_ | with_reducible refine w_tB ?_
  | with_reducible refine w_bl ?_ | with_reducible refine w_I0 ?_ | with_reducible refine w_U ?_ | with_reducible refine w_eqI ?_ | with_reducible refine w_neI ?_
  | with_reducible refine w_cons ?_ | with_reducible refine w_nil ?_ | with_reducible refine w_gn ?_ | with_reducible refine w_gsub ?_ | with_reducible refine w_and ?_ | with_reducible refine w_or ?_ | with_reducible refine w_not ?_
  | with_reducible refine w_andV ?_ | with_reducible refine w_orV ?_ | with_reducible refine w_notV ?_ | with_reducible refine w_if ?_ | with_reducible refine w_cb ?_ | with_reducible refine w_call ?_ | with_reducible refine w_lst ?_ | with_reducible refine w_tup ?_
  | with_reducible refine w_sl ?_ | with_reducible refine w_noPart ?_ | with_reducible refine w_part ?_ | with_reducible refine w_ex1 ?_ | with_reducible refine w_exb ?_ | with_reducible refine w_intB ?_ | with_reducible refine w_intI ?_ | with_reducible refine w_abs ?_)
local macro_rules | `(tactic| walk_at "rv ix") => `(tactic| ((with_reducible show rIxL _ _ _ _ _); refine' w_ixL (sq_lst ?ha) ?hb ?_; (case ha => first | exact upd_same | assumption); (case hb => first | exact rfl | assumption)))
local macro_rules | `(tactic| walk_at "rv ar") => `(tactic| first
  | (refine' w_I ?hc ?_; (case hc => first | (show (0 : Int) < _; first | assumption | decide | omega) | exact pow_c (by decide) (by decide) (by first | decide | omega) (by first | decide | omega) | exact mul_r (by first | decide | omega) (by first | decide | omega) | exact mul_l (by first | decide | omega) (by first | decide | omega) | exact divw (by first | assumption | decide | omega) (by first | assumption | decide | omega))))
local macro_rules | `(tactic| walk_at "rv go") => `(tactic| repeat first | walk_at "rv st" | walk_at "rv ix" | ((with_reducible show rI _ _ _ _ _ _); walk_at "rv ar"))
theorem w_xf {σ : L2.St} {H : Hp} {Q : VK} {a C dd : Addr} {n : Nat} {f : Str} {fs : List (Str × V)} {v : V} (hn : σ[n]? = some (some (.ref a))) (hd : H dd = some (.xd fs)) (hl : fs.lookup f = some v) (q : Q v H) : tXf a (.ref C) (some dd) C f (tVar n) σ H Q := ⟨_, hn, rfl, rfl, dd, fs, v, rfl, hd, hl, q⟩
theorem w_isD {K : PySem.W.Frag} {H : Hp} {Q : VK} {D a dd : Addr} {fs : List (Str × V)} {c : V} {cv : Value} {b : Bool} (hc : ∀ u, RelV c u → u = cv) (hd : H dd = some (.xd fs)) (hk : PySem.W.kitOne K (.ref D) cv = some b) (q : Q (.bl b) H) : rIsD K D a (.ref D) (some dd) [.ref a, c] H Q := ⟨rfl, c, cv, b, dd, fs, rfl, hc, rfl, hd, hk, q⟩
theorem sok_str (s : String) : PyData.strOk (Str.ofString s) = true := by
  unfold PyData.strOk Str.ofString
  rw [cpsOfBytes_string]
  simp only [List.all_toArray, List.all_map, List.all_eq_true, Function.comp, decide_eq_true_eq]
  intro c _
  have h := c.valid
  simp only [UInt32.isValidChar, Nat.isValidChar] at h
  show c.val.toNat < _
  omega
theorem sok_app {a b : Str} (h : PyData.strOk a = true) (g : PyData.strOk b = true) : PyData.strOk (a ++ b) = true := by
  unfold PyData.strOk at *
  show (a.cps ++ b.cps).all _ = true
  rw [Array.all_append, h, g]
  rfl
theorem sql_same {K : PySem.W.Frag} {H H' : Hp} {a : Addr} {xs : List V} (h : SqL K H a xs) (e : Same H H') : SqL K H' a xs := by
  rcases h with (h | ⟨o, h⟩) | h
  · exact .inl (.inl (e _ _ h))
  · exact .inl (.inr ⟨o, e _ _ h⟩)
  · exact .inr h
mutual
theorem dp_same {K : PySem.W.Frag} {H H' : Hp} (e : Same H H') : ∀ (d : PyData) (v : V), Dp K H v d → Dp K H' v d
  | .none, _, h => by cases h; exact .non
  | .bool b, _, h => by cases h; exact .bl b
  | .int i, _, h => by cases h; exact .int i
  | .str x, _, h => by cases h; exact .str x
  | .list ds, _, h => by
    cases h with
    | lst h1 h2 => exact .lst (sql_same h1 e) (dp_sameA e ds _ h2)
  | .tuple ds, _, h => by
    cases h with
    | tup h1 h2 => exact .tup (sqT_same0 h1 e) (dp_sameA e ds _ h2)
  | .dict _, _, h => by cases h
theorem dp_sameA {K : PySem.W.Frag} {H H' : Hp} (e : Same H H') : ∀ (ds : List PyData) (vs : List V), DpAll K H vs ds → DpAll K H' vs ds
  | [], _, h => by cases h; exact .nil
  | d :: r, _, h => by
    cases h with
    | cons h1 h2 => exact .cons (dp_same e d _ h1) (dp_sameA e r _ h2)
end
theorem neD_same {K : PySem.W.Frag} {H : Hp} {Q : VK} {x y : V} {d : PyData} (h1 : Dp K H x d) (h2 : Dp K H y d) (s : SeqAt.shaped d = true) (q : Q (.bl false) H) : rNeD K x y H Q := by
  refine ⟨d, d, h1, h2, s, s, ?_⟩
  rw [SeqAt.eqv_refl _ (SeqAt.canLay_of_shaped s)]
  exact q
end Rv
namespace Rv
open PySem PySem.Spec PyProof.Rows L2
local macro_rules | `(tactic| walk_at "rv st") => `(tactic| first
  | with_reducible refine iteT ?_ | with_reducible refine iteF ?_ | with_reducible refine w_nx ?_ | with_reducible refine w_yes ?_ | with_reducible refine w_rt ?_ | with_reducible refine iteNT ?_ | with_reducible refine iteNF ?_ | with_reducible refine iteNRf ?_ | with_reducible refine iteRf ?_ | with_reducible refine w_seqA ?_ | with_reducible refine w_seqD ?_ | with_reducible refine w_seqP ?_ | with_reducible refine w_asg ?_ | with_reducible refine w_ret ?_ | with_reducible refine w_drop ?_ | with_reducible refine w_ifs ?_ | with_reducible refine w_next ?_ | with_reducible refine w_par ?_
  | with_reducible refine w_op ?_ | with_reducible refine w_un ?_ | ((with_reducible show tVar _ _ _ _); refine' w_var ?hv ?_; (case hv => exact rfl)) | with_reducible refine w_c ?_ | with_reducible refine w_test ?_ | with_reducible refine w_tB ?_
  | with_reducible refine w_bl ?_ | with_reducible refine w_I0 ?_ | with_reducible refine w_U ?_ | with_reducible refine w_eqI ?_ | with_reducible refine w_neI ?_
  | with_reducible refine w_cons ?_ | with_reducible refine w_nil ?_ | with_reducible refine w_gn ?_ | with_reducible refine w_gsub ?_ | with_reducible refine w_and ?_ | with_reducible refine w_or ?_ | with_reducible refine w_not ?_
  | with_reducible refine w_andV ?_ | with_reducible refine w_orV ?_ | with_reducible refine w_notV ?_ | with_reducible refine w_if ?_ | with_reducible refine w_cb ?_ | with_reducible refine w_call ?_ | with_reducible refine w_lst ?_ | with_reducible refine w_tup ?_
  | with_reducible refine w_sl ?_ | with_reducible refine w_noPart ?_ | with_reducible refine w_part ?_ | with_reducible refine w_ex1 ?_ | with_reducible refine w_exb ?_ | with_reducible refine w_intB ?_ | with_reducible refine w_intI ?_ | with_reducible refine w_abs ?_)
local macro_rules | `(tactic| walk_at "rv ix") => `(tactic| ((with_reducible show rIxL _ _ _ _ _); refine' w_ixL (sq_lst ?ha) ?hb ?_; (case ha => first | exact upd_same | assumption); (case hb => first | exact rfl | assumption)))
local macro_rules | `(tactic| walk_at "rv ar") => `(tactic| first
  | (refine' w_I ?hc ?_; (case hc => first | (show (0 : Int) < _; first | assumption | decide | omega) | exact pow_c (by decide) (by decide) (by first | decide | omega) (by first | decide | omega) | exact mul_r (by first | decide | omega) (by first | decide | omega) | exact mul_l (by first | decide | omega) (by first | decide | omega) | exact divw (by first | assumption | decide | omega) (by first | assumption | decide | omega))))
local macro_rules | `(tactic| walk_at "rv go") => `(tactic| repeat first | walk_at "rv st" | walk_at "rv ix" | ((with_reducible show rI _ _ _ _ _ _); walk_at "rv ar"))
theorem roomH_any {k : Nat} {A A' : Around} (r : Room k A) (hd : A'.depth = A.depth := by rfl) (hu : A'.units = A.units := by rfl) : L2H.RoomH k A' := ⟨by rw [hd]; exact r.dp, by rw [hu]; exact r.un⟩
/-- the text of a fraction's repr -/
def rtext (t b : Int) : Str := ((((("Ratio(" : Str) ++ (toString t : String)) ++ (", " : Str)) ++ (toString b : String)) ++ (")" : Str))
theorem rtext_ok (t b : Int) : PyData.strOk (rtext t b) = true := sok_app (sok_app (sok_app (sok_app (sok_str _) (sok_str _)) (sok_str _)) (sok_str _)) (sok_str _)
/-- what is told of the class Ratio beside RCls -/
def RKi (K : PySem.W.Frag) (C : Addr) : Prop := PySem.W.kitOne K (.ref C) (.type "int") = some false
/-- a value that the law hands in, and its repr's text -/
inductive Odd (C : Addr) (H : Hp) : V → Str → Prop where
  | non : Odd C H .non (PyData.none).shown
  | bl (b : Bool) : Odd C H (.bl b) (PyData.bool b).shown
  | int (i : Int) (h : i.natAbs < 10 ^ 40) : Odd C H (.int i) (PyData.int i).shown
  | str (x : Str) (h1 : PyData.strOk (reprText x) = true) (h2 : (reprText x).length ≤ 1000) : Odd C H (.str x) (PyData.str x).shown
  | tup {a : Addr} (zs : List Int) (h : H a = some (.tup (zs.map V.int))) (hl : zs.length ≤ 1) (hz : ∀ z ∈ zs, z.natAbs < 10 ^ 32) (h1 : PyData.strOk (PyData.tuple (zs.map PyData.int)).shown = true) (h2 : (PyData.tuple (zs.map PyData.int)).shown.length ≤ 1000) : Odd C H (.ref a) (PyData.tuple (zs.map PyData.int)).shown
  | lst {a : Addr} (zs : List Int) (h : H a = some (.lst (zs.map V.int))) (hl : zs.length ≤ 1) (hz : ∀ z ∈ zs, z.natAbs < 10 ^ 32) (h1 : PyData.strOk (PyData.list (zs.map PyData.int)).shown = true) (h2 : (PyData.list (zs.map PyData.int)).shown.length ≤ 1000) : Odd C H (.ref a) (PyData.list (zs.map PyData.int)).shown
  | rat {a : Addr} (t b : Int) (h : RatAt C H a t b) (ht : t.natAbs < 10 ^ 40) (hb : b.natAbs < 10 ^ 40) : Odd C H (.ref a) (rtext t b)
theorem Odd.same {C : Addr} {H H' : Hp} {v : V} {y : Str} (o : Odd C H v y) (e : Same H H') : Odd C H' v y := by
  cases o with
  | non => exact .non
  | bl b => exact .bl b
  | int i h => exact .int i h
  | str x h1 h2 => exact .str x h1 h2
  | tup zs h hl hz h1 h2 => exact .tup zs (e _ _ h) hl hz h1 h2
  | lst zs h hl hz h1 h2 => exact .lst zs (e _ _ h) hl hz h1 h2
  | rat t b h ht hb => exact .rat t b (h.same e) ht hb
theorem Odd.ok {C : Addr} {H : Hp} {v : V} {y : Str} (o : Odd C H v y) : PyData.strOk y = true := by
  cases o with
  | non => exact sok_str "None"
  | bl b =>
    cases b
    · exact sok_str "False"
    · exact sok_str "True"
  | int i h => exact sok_str _
  | str x h1 h2 => exact h1
  | tup zs h hl hz h1 h2 => exact h1
  | lst zs h hl hz h1 h2 => exact h1
  | rat t b h ht hb => exact rtext_ok t b
theorem big_log {z : Int} (h : z.natAbs < 10 ^ 40) : z.natAbs.log2 < 1920 := by
  by_cases h0 : z.natAbs = 0
  · rw [h0]; decide
  · exact (Nat.log2_lt h0).mpr (Nat.lt_of_lt_of_le h (by decide))
theorem big_text {z : Int} (h : z.natAbs < 10 ^ 40) : (Str.ofString (toString z)).length ≤ 41 := by
  have := int_text_length_le10 (k := 40) (by decide) h
  rw [PySem.ofString_length]
  exact this
theorem Odd.wh {K : PySem.W.Frag} {C : Addr} {H : Hp} {v : V} {y : Str} (R : RCls K C) (k : RKi K C) (o : Odd C H v y) : Whole K H v := by
  cases o with
  | non => exact .other (t := .type "NoneType") (.base .non) (kit_ty (by decide +kernel)) fun i z => nomatch z
  | bl b => exact .bl b
  | int i h => exact .int i
  | str x h1 h2 => exact .other (t := .type "str") (.base (.str x)) (kit_ty (by decide +kernel)) fun i z => nomatch z
  | tup zs h hl hz h1 h2 => exact .other (t := .type "tuple") (.base (.tup h)) (kit_ty (by decide +kernel)) fun i z => nomatch z
  | lst zs h hl hz h1 h2 => exact .other (t := .type "list") (.base (.lst h)) (kit_ty (by decide +kernel)) fun i z => nomatch z
  | rat t b h ht hb =>
    obtain ⟨l, dx, h⟩ := h
    exact .other (t := .ref C) (.base (.ins h R.cl R.cA R.cG R.cT R.cM)) k fun i z => nomatch z
/-- repr(fraction) -/
def spRRepr (K : PySem.W.Frag) (C : Addr) : Sp := fun vs H Q _ => ∃ a t b, vs = [.ref a] ∧ RCls K C ∧ RatAt C H a t b ∧ t.natAbs < 10 ^ 40 ∧ b.natAbs < 10 ^ 40 ∧ Q (.str (rtext t b)) H
def t_Ratio___repr__ (K : PySem.W.Frag) (C_Ratio : Addr) : TS :=
  (tRet (tJoin [(tC (.str "Ratio(")), (tFmt (tFld K (tVar 0) "reduced_top")), (tC (.str ", ")), (tFmt (tFld K (tVar 0) "reduced_bottom")), (tC (.str ")"))]))
theorem Odd.rp {K : PySem.W.Frag} {C : Addr} {H : Hp} {Q : VK} {v : V} {y : Str} (R : RCls K C) (o : Odd C H v y) (q : Q (.str y) H) : cReprA K C (spRRepr K C) [v] H Q := by
  have sb := sizeLine_big
  refine ⟨v, rfl, ?_⟩
  cases o with
  | non => exact .inl ⟨.none, .non, by simp [PyData.showable], by simp [PyData.hasDict], by simp [PyData.depth], by show (Str.ofString "None").length ≤ sizeLine; decide, q⟩
  | bl b => exact .inl ⟨.bool b, .bl b, by simp [PyData.showable], by simp [PyData.hasDict], by simp [PyData.depth], by cases b <;> decide, q⟩
  | int i h => exact .inl ⟨.int i, .int i, by simpa [PyData.showable] using big_log h, by simp [PyData.hasDict], by simp [PyData.depth], by have := big_text h; show (Str.ofString (toString i)).length ≤ sizeLine; omega, q⟩
  | str x h1 h2 => exact .inl ⟨.str x, .str x, by simp [PyData.showable], by simp [PyData.hasDict], by simp [PyData.depth], by show (reprText x).length ≤ sizeLine; omega, q⟩
  | tup zs h hl hz h1 h2 => exact .inl ⟨.tuple (zs.map PyData.int), .tup (sq_tup h) (dp_ints zs), by simpa [PyData.showable] using ints_showable hz, by simp [PyData.hasDict, ints_dict], by have := (lay_ints zs).2; simp only [PyData.depth, this]; omega, by omega, q⟩
  | lst zs h hl hz h1 h2 => exact .inl ⟨.list (zs.map PyData.int), .lst (sq_lst h) (dp_ints zs), by simpa [PyData.showable] using ints_showable hz, by simp [PyData.hasDict, ints_dict], by have := (lay_ints zs).2; simp only [PyData.depth, this]; omega, by omega, q⟩
  | @rat a t b h ht hb =>
    obtain ⟨l, dx, h'⟩ := id h
    exact .inr ⟨a, dx, _, rfl, h', a, t, b, rfl, R, h, ht, hb, _, rfl, q⟩
theorem p_rrepr {K : PySem.W.Frag} {C : Addr} {vs : List V} {H : Hp} {Q : VK} {E : XK} (h : spRRepr K C vs H Q E) : t_Ratio___repr__ K C { nx := fun _ H' => Q .non H', rt := Q } (start ["self"] vs) H := by
  obtain ⟨a, t, b, rfl, R, hq, ht, hb, k⟩ := h
  obtain ⟨l, dx, ha⟩ := hq
  have sb := sizeLine_big
  have z1 := big_text ht
  have z2 := big_text hb
  have l1 : ("Ratio(" : Str).length = 6 := by decide +kernel
  unfold t_Ratio___repr__
  walk_at "rv go"
  refine w_join ?_
  refine w_js ?_
  walk_at "rv go"
  refine ⟨_, rfl, by rw [str_empty, l1]; omega, ?_⟩
  rw [str_empty]
  refine w_js ?_
  show tFld K (tVar 0) "reduced_top" _ _ _
  refine w_fld rfl ha R.cl R.nT (rfl2_t _ _) ?_
  refine .inr ⟨t, rfl, big_log ht, ?_⟩
  refine ⟨_, rfl, by rw [str_len, l1]; omega, ?_⟩
  refine w_js ?_
  walk_at "rv go"
  refine ⟨_, rfl, by rw [str_len, str_len, l1, len_p2]; omega, ?_⟩
  refine w_js ?_
  show tFld K (tVar 0) "reduced_bottom" _ _ _
  refine w_fld rfl ha R.cl R.nB (rfl2_b _ _) ?_
  refine .inr ⟨b, rfl, big_log hb, ?_⟩
  refine ⟨_, rfl, by rw [str_len, str_len, str_len, l1, len_p2]; omega, ?_⟩
  refine w_js ?_
  walk_at "rv go"
  refine ⟨_, rfl, by rw [str_len, str_len, str_len, str_len, l1, len_p2, len_p3]; omega, ?_⟩
  exact k
end Rv
namespace Rv
open PySem PySem.Spec PyProof.Rows L2
local macro_rules | `(tactic| walk_at "rv st") => `(tactic| first
  | with_reducible refine iteT ?_ | with_reducible refine iteF ?_ | with_reducible refine w_nx ?_ | with_reducible refine w_yes ?_ | with_reducible refine w_rt ?_ | with_reducible refine iteNT ?_ | with_reducible refine iteNF ?_ | with_reducible refine iteNRf ?_ | with_reducible refine iteRf ?_ | with_reducible refine w_seqA ?_ | with_reducible refine w_seqD ?_ | with_reducible refine w_seqP ?_ | with_reducible refine w_asg ?_ | with_reducible refine w_ret ?_ | with_reducible refine w_drop ?_ | with_reducible refine w_ifs ?_ | with_reducible refine w_next ?_ | with_reducible refine w_par ?_
  | with_reducible refine w_op ?_ | with_reducible refine w_un ?_ | ((with_reducible show tVar _ _ _ _); refine' w_var ?hv ?_; (case hv => exact rfl)) | with_reducible refine w_c ?_ | with_reducible refine w_test ?_ | with_reducible refine w_tB ?_
  | with_reducible refine w_bl ?_ | with_reducible refine w_I0 ?_ | with_reducible refine w_U ?_ | with_reducible refine w_eqI ?_ | with_reducible refine w_neI ?_
  | with_reducible refine w_cons ?_ | with_reducible refine w_nil ?_ | with_reducible refine w_gn ?_ | with_reducible refine w_gsub ?_ | with_reducible refine w_and ?_ | with_reducible refine w_or ?_ | with_reducible refine w_not ?_
  | with_reducible refine w_andV ?_ | with_reducible refine w_orV ?_ | with_reducible refine w_notV ?_ | with_reducible refine w_if ?_ | with_reducible refine w_cb ?_ | with_reducible refine w_call ?_ | with_reducible refine w_lst ?_ | with_reducible refine w_tup ?_
  | with_reducible refine w_sl ?_ | with_reducible refine w_noPart ?_ | with_reducible refine w_part ?_ | with_reducible refine w_ex1 ?_ | with_reducible refine w_exb ?_ | with_reducible refine w_intB ?_ | with_reducible refine w_intI ?_ | with_reducible refine w_abs ?_)
local macro_rules | `(tactic| walk_at "rv ix") => `(tactic| ((with_reducible show rIxL _ _ _ _ _); refine' w_ixL (sq_lst ?ha) ?hb ?_; (case ha => first | exact upd_same | assumption); (case hb => first | exact rfl | assumption)))
local macro_rules | `(tactic| walk_at "rv ar") => `(tactic| first
  | (refine' w_I ?hc ?_; (case hc => first | (show (0 : Int) < _; first | assumption | decide | omega) | exact pow_c (by decide) (by decide) (by first | decide | omega) (by first | decide | omega) | exact mul_r (by first | decide | omega) (by first | decide | omega) | exact mul_l (by first | decide | omega) (by first | decide | omega) | exact divw (by first | assumption | decide | omega) (by first | assumption | decide | omega))))
local macro_rules | `(tactic| walk_at "rv go") => `(tactic| repeat first | walk_at "rv st" | walk_at "rv ix" | ((with_reducible show rI _ _ _ _ _ _); walk_at "rv ar"))
end Rv
namespace Rv
open PySem PySem.Spec PyProof.Rows L2
theorem rki_of {K : PySem.W.Frag} {x : Str} (h : decide (PySem.W.kitOne K (.ref (He.ga K x)) (.type "int") = some false) = true) : RKi K (He.ga K x) := (of_decide_eq_true h : PySem.W.kitOne K (.ref (He.ga K x)) (.type "int") = some false)
theorem isI_int {v : V} (h : isI v = true) : ∃ i, v = .int i := by
  cases v with
  | int i => exact ⟨i, rfl⟩
  | _ => exact Bool.noConfusion (show false = true from h)
def t_InvalidNumber___init__ (K : PySem.W.Frag) (C_InvalidNumber : Addr) : TS :=
  (tSeq (tDrop (tBaseI K C_InvalidNumber "ValueError" "ValueError.__new__" "ValueError.__init__" bm_ValueError (tCons (tVar 0) (tCons (tC (.str "not a valid number here")) tNil))))
    (tFst K C_InvalidNumber "ValueError" "ValueError.__new__" "ValueError.__init__" bm_ValueError "value" (tVar 0) (tVar 1)))
local macro_rules | `(tactic| walk_at "rv st") => `(tactic| first
  | with_reducible refine iteT ?_ | with_reducible refine iteF ?_ | with_reducible refine w_nx ?_ | with_reducible refine w_yes ?_ | with_reducible refine w_rt ?_ | with_reducible refine iteNT ?_ | with_reducible refine iteNF ?_ | with_reducible refine iteNRf ?_ | with_reducible refine iteRf ?_ | with_reducible refine w_seqA ?_ | with_reducible refine w_seqD ?_ | with_reducible refine w_seqP ?_ | with_reducible refine w_asg ?_ | with_reducible refine w_ret ?_ | with_reducible refine w_drop ?_ | with_reducible refine w_ifs ?_ | with_reducible refine w_next ?_ | with_reducible refine w_par ?_
  | with_reducible refine w_op ?_ | with_reducible refine w_un ?_ | ((with_reducible show tVar _ _ _ _); refine' w_var ?hv ?_; (case hv => exact rfl)) | with_reducible refine w_c ?_ | with_reducible refine w_test ?_ | with_reducible refine w_tB ?_
  | with_reducible refine w_bl ?_ | with_reducible refine w_I0 ?_ | with_reducible refine w_U ?_ | with_reducible refine w_eqI ?_ | with_reducible refine w_neI ?_
  | with_reducible refine w_cons ?_ | with_reducible refine w_nil ?_ | with_reducible refine w_gn ?_ | with_reducible refine w_gsub ?_ | with_reducible refine w_and ?_ | with_reducible refine w_or ?_ | with_reducible refine w_not ?_
  | with_reducible refine w_andV ?_ | with_reducible refine w_orV ?_ | with_reducible refine w_notV ?_ | with_reducible refine w_if ?_ | with_reducible refine w_cb ?_ | with_reducible refine w_call ?_ | with_reducible refine w_lst ?_ | with_reducible refine w_tup ?_
  | with_reducible refine w_sl ?_ | with_reducible refine w_noPart ?_ | with_reducible refine w_part ?_ | with_reducible refine w_ex1 ?_ | with_reducible refine w_exb ?_ | with_reducible refine w_intB ?_ | with_reducible refine w_intI ?_ | with_reducible refine w_abs ?_)
local macro_rules | `(tactic| walk_at "rv ix") => `(tactic| ((with_reducible show rIxL _ _ _ _ _); refine' w_ixL (sq_lst ?ha) ?hb ?_; (case ha => first | exact upd_same | assumption); (case hb => first | exact rfl | assumption)))
local macro_rules | `(tactic| walk_at "rv ar") => `(tactic| first
  | (refine' w_I ?hc ?_; (case hc => first | (show (0 : Int) < _; first | assumption | decide | omega) | exact pow_c (by decide) (by decide) (by first | decide | omega) (by first | decide | omega) | exact mul_r (by first | decide | omega) (by first | decide | omega) | exact mul_l (by first | decide | omega) (by first | decide | omega) | exact divw (by first | assumption | decide | omega) (by first | assumption | decide | omega))))
local macro_rules | `(tactic| walk_at "rv go") => `(tactic| repeat first | walk_at "rv st" | walk_at "rv ix" | ((with_reducible show rI _ _ _ _ _ _); walk_at "rv ar"))
theorem p_numI {K : PySem.W.Frag} {C : Addr} {vs : List V} {H : Hp} {Q : VK} {E : XK} (h : spExc K C "ValueError" "ValueError.__new__" "ValueError.__init__" bm_ValueError "value" vs H Q E) : t_InvalidNumber___init__ K C { nx := fun _ H' => Q .non H', rt := Q } (start ["self", "value"] vs) H := p_exc "not a valid number here" h fun _ _ => rfl
end Rv
namespace RvM
open PySem PySem.Spec PyProof.Rows L2 Rv
def PoolAt (H : Hp) (d : Addr) : Prop := ∃ num seed : Int, H d = some (.lst [.int num, .int seed]) ∧ 0 ≤ num ∧ 0 ≤ seed ∧ seed < 2147483647
theorem PoolAt.same {H H' : Hp} {d : Addr} (h : PoolAt H d) (e : Same H H') : PoolAt H' d := by
  obtain ⟨num, seed, h1, h2⟩ := h
  exact ⟨num, seed, e _ _ h1, h2⟩
theorem PoolAt.nd {H : Hp} {d a : Addr} (h : PoolAt H d) (n : H a = none) : a ≠ d := by
  obtain ⟨num, seed, h1, h2⟩ := h
  intro e
  rw [e, h1] at n
  cases n
def spPool (K : PySem.W.Frag) : Sp := fun vs H Q _ => ∃ (a : Addr) (ns : List Int), ∃ k : Nat, vs = [.ref a, .int (k : Int)] ∧ SqL K H a (ns.map V.int) ∧ ns.length ≤ 63 ∧ k ≤ 20 ∧ ∀ p H', H p = none → Same H H' → PoolAt H' p → Q (.ref p) H'
def spTake (K : PySem.W.Frag) : Sp := fun vs H Q _ => ∃ (d : Addr) (many : Int), vs = [.ref d, .int many] ∧ PoolAt H d ∧ 0 < many ∧ many < 2 ^ 200 ∧ ∀ r H', 0 ≤ r → r < many → But d H H' → PoolAt H' d → Q (.int r) H'
def t__law_pool (K : PySem.W.Frag) : TS :=
  (tSeq (tAsg (tOp (rIxL K) (tOp rCat (tSl (rSlL K) (tVar 0) (tPart (tVar 1)) (tPart (tOp oAdd (tVar 1) (tC (.int 1))))) (tLst (tCons (tC (.int 0)) tNil))) (tC (.int 0))) (gName 2))
    (tSeq (tAsg (tIf (tTest (tOp oGe (tVar 2) (tC (.int 0)))) (tVar 2) (tOp oSub (tUn (rU fun i => .int (-i)) (tC (.int 1))) (tVar 2))) (gName 3))
    (tSeq (tAsg (tOp oMod (tOp oMul (tOp oAdd (tOp oAdd (tOp oAdd (tOp oMod (tVar 3) (tC (.int 2147483629))) (tOp oMul (tOp oMul (tC (.int 7919)) (tVar 1)) (tVar 1))) (tOp oMul (tC (.int 31)) (tVar 1))) (tC (.int 17))) (tC (.int 48271))) (tC (.int 2147483647))) (gName 4))
    (tRet (tLst (tCons (tOp oMul (tVar 3) (tCB cInt (tCons (tOp oGe (tVar 3) (tOp oPow (tC (.int 10)) (tC (.int 18)))) tNil))) (tCons (tOp oMod (tOp oMul (tVar 4) (tVar 4)) (tC (.int 2147483629))) tNil)))))))
def t__law_take (K : PySem.W.Frag) : TS :=
  (tSeq (tIfS (tTest (tOp oGt (tOp (rIxL K) (tVar 0) (tC (.int 0))) (tC (.int 0)))) (tSeq (tAsg (tOp oMod (tOp (rIxL K) (tVar 0) (tC (.int 0))) (tVar 1)) (gName 2))
    (tSeq (tAsg (tOp oDiv (tOp (rIxL K) (tVar 0) (tC (.int 0))) (tVar 1)) (gSub (tVar 0) (tC (.int 0)) rSetL))
    (tRet (tVar 2)))) tNext)
    (tSeq (tAsg (tOp oMod (tOp oAdd (tOp oMul (tOp (rIxL K) (tVar 0) (tC (.int 1))) (tC (.int 48271))) (tC (.int 12345))) (tC (.int 2147483647))) (gSub (tVar 0) (tC (.int 1)) rSetL))
    (tRet (tOp oMod (tOp oDiv (tOp oMod (tOp oMul (tOp (rIxL K) (tVar 0) (tC (.int 1))) (tOp (rIxL K) (tVar 0) (tC (.int 1)))) (tC (.int 2147483629))) (tC (.int 64))) (tVar 1)))))
local macro_rules | `(tactic| walk_at "rv st") => `(tactic| first
  | with_reducible refine iteT ?_ | with_reducible refine iteF ?_ | with_reducible refine w_nx ?_ | with_reducible refine w_yes ?_ | with_reducible refine w_rt ?_ | with_reducible refine iteNT ?_ | with_reducible refine iteNF ?_ | with_reducible refine iteNRf ?_ | with_reducible refine iteRf ?_ | with_reducible refine w_seqA ?_ | with_reducible refine w_seqD ?_ | with_reducible refine w_seqP ?_ | with_reducible refine w_asg ?_ | with_reducible refine w_ret ?_ | with_reducible refine w_drop ?_ | with_reducible refine w_ifs ?_ | with_reducible refine w_next ?_ | with_reducible refine w_par ?_
  | with_reducible refine w_op ?_ | with_reducible refine w_un ?_ | ((with_reducible show tVar _ _ _ _); refine' w_var ?hv ?_; (case hv => exact rfl)) | with_reducible refine w_c ?_ | with_reducible refine w_test ?_ | with_reducible refine w_tB ?_
  | with_reducible refine w_bl ?_ | with_reducible refine w_I0 ?_ | with_reducible refine w_U ?_ | with_reducible refine w_eqI ?_ | with_reducible refine w_neI ?_
  | with_reducible refine w_cons ?_ | with_reducible refine w_nil ?_ | with_reducible refine w_gn ?_ | with_reducible refine w_gsub ?_ | with_reducible refine w_and ?_ | with_reducible refine w_or ?_ | with_reducible refine w_not ?_
  | with_reducible refine w_andV ?_ | with_reducible refine w_orV ?_ | with_reducible refine w_notV ?_ | with_reducible refine w_if ?_ | with_reducible refine w_cb ?_ | with_reducible refine w_call ?_ | with_reducible refine w_lst ?_ | with_reducible refine w_tup ?_
  | with_reducible refine w_sl ?_ | with_reducible refine w_noPart ?_ | with_reducible refine w_part ?_ | with_reducible refine w_ex1 ?_ | with_reducible refine w_exb ?_ | with_reducible refine w_intB ?_ | with_reducible refine w_intI ?_ | with_reducible refine w_abs ?_)
local macro_rules | `(tactic| walk_at "rv ix") => `(tactic| ((with_reducible show rIxL _ _ _ _ _); refine' w_ixL (sq_lst ?ha) ?hb ?_; (case ha => first | exact upd_same | assumption); (case hb => first | exact rfl | assumption)))
local macro_rules | `(tactic| walk_at "rv ar") => `(tactic| first
  | (refine' w_I ?hc ?_; (case hc => first | (show (0 : Int) < _; first | assumption | decide | omega) | exact pow_c (by decide) (by decide) (by first | decide | omega) (by first | decide | omega) | exact mul_r (by first | decide | omega) (by first | decide | omega) | exact mul_l (by first | decide | omega) (by first | decide | omega) | exact divw (by first | assumption | decide | omega) (by first | assumption | decide | omega))))
local macro_rules | `(tactic| walk_at "rv go") => `(tactic| repeat first | walk_at "rv st" | walk_at "rv ix" | ((with_reducible show rI _ _ _ _ _ _); walk_at "rv ar"))
theorem w_ifM {σ : L2.St} {H : Hp} {Q : VK} {c : TT} {ta tb : TE} {P : Int → Prop} (fin : ∀ z, P z → Q (.int z) H) (h : ∀ Q' : VK, (∀ z, P z → Q' (.int z) H) → tIf c ta tb σ H Q') : tIf c ta tb σ H Q := h Q fin
theorem p_pool {K : PySem.W.Frag} {vs : List V} {H : Hp} {Q : VK} {E : XK} (h : spPool K vs H Q E) : t__law_pool K { nx := fun _ H' => Q .non H', rt := Q } (start ["_law_script", "_law_k", "_law_cell", "_law_number", "_law_mixed"] vs) H := by
  obtain ⟨a, ns, k, rfl, hS, hl, hk, q⟩ := h
  unfold t__law_pool
  walk_at "rv go"
  refine w_slL hS fun p np => ?_
  obtain ⟨ms, em⟩ := cut_map ns (some (k : Int)) (some ((k : Int) + 1))
  have lm : ms.length ≤ 63 := by
    have q1 := cutV_length (ns.map V.int) (some (k : Int)) (some ((k : Int) + 1))
    rw [em, List.length_map, List.length_map] at q1
    omega
  rw [em]
  walk_at "rv go"
  refine ⟨szl (by show 1 ≤ 100000; decide), fun p2 n2 => ?_⟩
  have h1 := same_new (o := .lst [.int 0]) (Same.refl _) n2 _ _ (upd_same (H := H) (a := p) (o := .lst (ms.map V.int)))
  refine ⟨p, p2, _, _, rfl, rfl, h1, upd_same, szl (by rw [List.length_map]; show ms.length + 1 ≤ 100000; omega), fun p3 n3 => ?_⟩
  have e3 := same_new (o := .lst (ms.map V.int ++ [.int 0])) (same_new (o := .lst [.int 0]) (same_new (o := .lst (ms.map V.int)) (Same.refl H) np) n2) n3
  walk_at "rv go"
  have hy : ∃ y : Int, atI (ms.map V.int ++ [.int 0]) 0 = some (.int y) := by
    cases ms with
    | nil => exact ⟨0, rfl⟩
    | cons m r => exact ⟨m, at_nat (xs := List.map V.int (m :: r) ++ [.int 0]) (j := 0) rfl⟩
  obtain ⟨y, hy⟩ := hy
  refine w_ixL (sq_lst upd_same) hy ?_
  generalize upd (upd (upd H p (.lst (ms.map V.int))) p2 (.lst [.int 0])) p3 (.lst (ms.map V.int ++ [.int 0])) = G at e3 ⊢
  refine w_gn ?_
  refine w_seqA ?_
  refine w_ifM (P := fun z => 0 ≤ z) (fun z hz => ?_) (fun Q' fin => ?_)
  · walk_at "rv go"
    have m1 : 0 ≤ (z % 2147483629 + 7919 * (k : Int) * (k : Int) + 31 * (k : Int) + 17) * 48271 % 2147483647 := Int.emod_nonneg _ (by decide)
    have m2 : (z % 2147483629 + 7919 * (k : Int) * (k : Int) + 31 * (k : Int) + 17) * 48271 % 2147483647 < 2147483647 := Int.emod_lt_of_pos _ (by decide)
    generalize (z % 2147483629 + 7919 * (k : Int) * (k : Int) + 31 * (k : Int) + 17) * 48271 % 2147483647 = mx at m1 m2 ⊢
    have hb : ∀ w : Bool, (if w = true then (1 : Int) else 0) = 0 ∨ (if w = true then (1 : Int) else 0) = 1 := fun w => by cases w <;> simp
    have hb1 := hb (decide ((10 : Int) ^ Int.toNat 18 ≤ z))
    generalize (if decide ((10 : Int) ^ Int.toNat 18 ≤ z) = true then (1 : Int) else 0) = u at hb1 ⊢
    refine ⟨szl (by show 2 ≤ 100000; decide), fun r nr => ?_⟩
    refine q r _ ?_ (same_new e3 nr) ⟨_, _, upd_same, ?_, Int.emod_nonneg _ (by decide), Int.lt_of_lt_of_le (Int.emod_lt_of_pos _ (by decide)) (by decide)⟩
    · cases z : H r with
      | none => rfl
      | some o =>
        rw [e3 _ _ z] at nr
        cases nr
    · rcases hb1 with h | h
      · rw [h, Int.mul_zero]
        exact Int.le_refl _
      · rw [h, Int.mul_one]
        exact hz
  · refine w_if ?_
    walk_at "rv go"
    refine w_both (fun c => ?_) (fun c => ?_)
    · walk_at "rv go"
      exact fin _ c
    · walk_at "rv go"
      exact fin _ (by omega)
theorem take_call {K : PySem.W.Frag} {H : Hp} {Q : VK} {E : XK} {d : Addr} {many : Int} (h : PoolAt H d) (h1 : 0 < many) (h2 : many < 2 ^ 200) (k : ∀ r H', 0 ≤ r → r < many → But d H H' → PoolAt H' d → Q (.int r) H') :
    spTake K ([.ref d, .int many] ++ []) H Q E := ⟨d, many, rfl, h, h1, h2, k⟩
theorem p_take {K : PySem.W.Frag} {vs : List V} {H : Hp} {Q : VK} {E : XK} (h : spTake K vs H Q E) : t__law_take K { nx := fun _ H' => Q .non H', rt := Q } (start ["_law_pool_here", "_law_many", "_law_digit"] vs) H := by
  obtain ⟨d, many, rfl, ⟨num, seed, hd, hn, hs, hs2⟩, hm, hm2, k⟩ := h
  unfold t__law_take
  refine w_seq ?_
  walk_at "rv go"
  refine w_both (fun c => ?_) (fun c => ?_)
  · walk_at "rv go"
    refine w_setL hd rfl ?_
    walk_at "rv go"
    exact k _ _ (Int.emod_nonneg _ (by omega)) (Int.emod_lt_of_pos _ hm) (But.refl d H).wr ⟨num / many, seed, upd_same, Int.ediv_nonneg hn (by omega), hs, hs2⟩
  · walk_at "rv go"
    have s1 : 0 ≤ (seed * 48271 + 12345) % 2147483647 := Int.emod_nonneg _ (by decide)
    have s2 : (seed * 48271 + 12345) % 2147483647 < 2147483647 := Int.emod_lt_of_pos _ (by decide)
    refine w_setL hd rfl ?_
    generalize (seed * 48271 + 12345) % 2147483647 = sd at s1 s2 ⊢
    walk_at "rv go"
    exact k _ _ (Int.emod_nonneg _ (by omega)) (Int.emod_lt_of_pos _ hm) (But.refl d H).wr ⟨num, sd, upd_same, hn, s1, s2⟩
def iRn (n : Nat) : TI := fun _ H R => R (Itr 0 n) H
theorem w_forI {σ : L2.St} {H : Hp} {D : Ends} {tr : TA} {s1 : TS} {g : TG} (q : tr σ H fun vs H1 => ∃ j : Int, vs = [.int j] ∧ -(2 ^ 62) ≤ j ∧ j < 2 ^ 62 ∧ tFor (iRn j.toNat) g s1 D σ H1) : tFor (iRng1 tr) g s1 D σ H := q
theorem w_forRn {σ : L2.St} {H : Hp} {D : Ends} {s1 : TS} {slot n : Nat} (Pv : Nat → L2.St → Hp → Prop) (h0 : Pv 0 σ H)
    (hs : ∀ i σ' H', i < n → Pv i σ' H' → s1 { D with nx := Pv (i + 1), ct := Pv (i + 1), bk := D.nx } (σ'.set slot (some (.int (i : Int)))) H') (hd : ∀ σ' H', Pv n σ' H' → D.nx σ' H') : tFor (iRn n) (gName slot) s1 D σ H := by
  refine for_range Pv h0 (fun i σ' H' hi q => ?_) hd
  show s1 _ (σ'.set slot (some (.int ((0 : Int) + (i : Int))))) H'
  rw [Int.zero_add]
  exact hs i σ' H' hi q
/-- a for over a list that is just made -/
theorem w_forLn {K : PySem.W.Frag} {σ : L2.St} {H : Hp} {D : Ends} {tl : TE} {s1 : TS} {g : TG} (q : tl σ H fun x H1 => ∃ a, x = .ref a ∧ tFor (iAt K a) g s1 D σ H1) : tFor (iList K tl) g s1 D σ H := q
theorem w_forLa {K : PySem.W.Frag} {σ : L2.St} {H : Hp} {D : Ends} {s1 : TS} {g : TG} {a : Addr} {xs : List V} (hx : SqL K H a xs) (Pv : Nat → L2.St → Hp → Prop) (h0 : Pv 0 σ H) (hl : ∀ i σ' H', i ≤ xs.length → Pv i σ' H' → SqL K H' a xs)
    (hs : ∀ i x σ' H', xs[i]? = some x → Pv i σ' H' → g x σ' H' fun σ2 H2 => s1 { D with nx := Pv (i + 1), ct := Pv (i + 1), bk := D.nx } σ2 H2) (hd : ∀ σ' H', Pv xs.length σ' H' → D.nx σ' H') : tFor (iAt K a) g s1 D σ H :=
  ⟨⟨xs, hx⟩, for_list Pv h0 hl hs hd⟩
theorem same_but {H H1 H2 : Hp} {p : Addr} (e : Same H H1) (n : H p = none) (b : But p H1 H2) : Same H H2 := fun c o h => b c o (ne_of_none h n) (e c o h)
def OddR (H : Hp) (v : V) : Prop := v = .non ∨ (∃ b, v = .bl b) ∨ (∃ s, v = .str s) ∨ (∃ p xs, v = .ref p ∧ H p = some (.lst xs)) ∨ (∃ p xs, v = .ref p ∧ H p = some (.tup xs)) ∨ ∃ p kvs, v = .ref p ∧ H p = some (.dK kvs)
theorem OddR.same {H H' : Hp} {v : V} (h : OddR H v) (e : Same H H') : OddR H' v := by
  rcases h with h | h | h | ⟨p, xs, h1, h2⟩ | ⟨p, xs, h1, h2⟩ | ⟨p, xs, h1, h2⟩
  · exact .inl h
  · exact .inr (.inl h)
  · exact .inr (.inr (.inl h))
  · exact .inr (.inr (.inr (.inl ⟨p, xs, h1, e _ _ h2⟩)))
  · exact .inr (.inr (.inr (.inr (.inl ⟨p, xs, h1, e _ _ h2⟩))))
  · exact .inr (.inr (.inr (.inr (.inr ⟨p, xs, h1, e _ _ h2⟩))))
end RvM
/-! str, bool, abs and unary minus of own instances. -/
namespace PySem.W
open PySem PySem.Calls PyProof.Rows Builtin
section
variable {prog : Program} {w : World} {A : Around} {E : Value → Shared → Prop} {s : Shared} {K : Frag} {C x f : Addr} {ox : Obj} {od : Option Obj}
theorem rvo_bool {Q : Value → Shared → Prop} (X : K.In s.heap) (I : InstAt s.heap x ox C od) (hs : findIn K (.ref C) "__bool__" = some (some (.ref f))) (hf : isFn K (.ref f) = true)
    (h : wpAny (model prog w) A.in1.in1 (call (.ref f) [.ref x]) (BoolBack fun b => Q (.bool b)) E s) : wpAny (model prog w) A (call (.type "bool") [.ref x]) Q E s := by
  refine callType_codes (T := "bool") (Bi := Builtin.«object.__init__») (Q₁ := fun r s₁ => ∃ b, r = .bool b ∧ Q r s₁) PySem.F.called_bool (PySem.F.typeCall_bool_1 _) PySem.F.entry_object_init ?_ ?_
  · refine codeAny_of_tree ?_
    show wpAny _ A.in1.in1 (do checkBuiltinCall "bool.__new__" ⟨[.type "bool", .ref x], []⟩; again (.builtin "bool.__new__" ⟨[.type "bool", .ref x], []⟩)) _ _ s
    refine wpAny_bind (wpAny_of_eq (PySem.F.newCall_bool_1 _) (wpAny_pure ⟨plainId_quiet (by decide +kernel) _, codeAny_builtin PySem.F.entry_bool_new ?_⟩))
    rw [Around.under_plainId (by decide +kernel) _]
    unfold Builtin.«bool.__new__»
    refine wpAny_bind (wpAny_pure ?_)
    refine wpAny_bind (wpAny_of_eq PySem.F.conv_sub_bool ?_)
    refine wpAny_bind (wpAny_of_eq rfl ?_)
    show wpAny _ _ (truthy (.ref x) >>= fun b => ret (.bool b)) _ _ _
    refine wpAny_bind (m := truthy (.ref x)) ?_
    unfold truthy
    refine wpAny_bind (m := callSpecial? (.ref x) (Str.ofString "__bool__")) (special_fn X I hs (beq_iff_eq.mp hf) (wpAny_mono h (fun r s' hr => ?_) fun _ _ y => y))
    cases r <;> first | exact hr.elim | skip
    exact wpAny_pure (wpAny_pure ⟨_, rfl, hr⟩)
  · rintro obj s₁ ⟨b, rfl, hq⟩
    exact ⟨typeIs_bool _ _, PySem.F.args_object_init_2 _ _, object_init_meets PySem.F.called_bool.init.lookup PySem.F.called_bool.made (by decide) prog w A.in1 _ s₁ ⟨typeIs_bool _ _, rfl, hq⟩⟩
theorem rvo_abs {Q : Value → Shared → Prop} (X : K.In s.heap) (I : InstAt s.heap x ox C od) (hs : findIn K (.ref C) "__abs__" = some (some (.ref f))) (hf : isFn K (.ref f) = true)
    (h : wpAny (model prog w) A.in1 (call (.ref f) [.ref x]) Q E s) : wpAny (model prog w) A (call (.builtin "abs") [.ref x]) Q E s := by
  refine Calls.call_function_entry kind_abs plain_abs entry_abs (args_abs _) ?_
  unfold Builtin.«abs»
  refine wpAny_bind (m := oneArg "abs" _) (wpAny_pure ?_)
  exact wpAny_bind (m := callSpecial? (.ref x) (Str.ofString "__abs__")) (special_fn X I hs (beq_iff_eq.mp hf) (wpAny_mono h (fun r s' hr => wpAny_pure ⟨_, rfl, hr⟩) fun _ _ y => y))
end
end PySem.W
namespace Rv
open PySem PySem.Spec PyProof.Rows L2
/-- the class at C has a def of one parameter under the name nm -/
structure CalS (P : Program) (w : World) (K : PySem.W.Frag) (mg : Str → Option Value) (base : Heap) (CX : CXT) (k : Nat) (C : Addr) (nm : Str) (sp : Sp) : Prop where
  ex : ∃ f fd, FnOk P w K mg base CX k f fd ["self"] sp ∧ PySem.W.findIn K (.ref C) nm = some (some (.ref f)) ∧ PySem.W.isFn K (.ref f) = true ∧ Binds K fd ["self"] []
def cOwnS (C : Addr) (sp : Sp) (E : XK) : List V → Hp → VK → Prop := fun xs H Q => ∃ a dx fs, xs = [.ref a] ∧ H a = some (.ins C dx fs) ∧ sp [.ref a] H (fun z H' => ∃ y, z = .str y ∧ Q (.str y) H') E
def cOwnB (C : Addr) (sp : Sp) (E : XK) : List V → Hp → VK → Prop := fun xs H Q => ∃ a dx fs, xs = [.ref a] ∧ H a = some (.ins C dx fs) ∧ sp [.ref a] H (fun z H' => ∃ y, z = .bl y ∧ Q (.bl y) H') E
def cOwn1 (C : Addr) (sp : Sp) (E : XK) : List V → Hp → VK → Prop := fun xs H Q => ∃ a dx fs, xs = [.ref a] ∧ H a = some (.ins C dx fs) ∧ sp [.ref a] H Q E
def rOwnU (C : Addr) (sp : Sp) (E : XK) : V → Hp → VK → Prop := fun x H Q => ∃ a dx fs, x = .ref a ∧ H a = some (.ins C dx fs) ∧ sp [.ref a] H Q E
section
variable {X : Cx} {CX : CXT} {k : Nat} {sp : Sp} {E : XK} {C : Addr}
theorem run1 {A : Around} {f a : Addr} {fd : FuncData} {pins : List (Addr × Obj)} {σ : L2.St} {H : Hp} {s : Shared} {Q : VK} {B : Value → Shared → Prop} (F : FnOk X.prog X.w X.K X.mg X.base CX k f fd ["self"] sp) (hb : Binds X.K fd ["self"] []) (hr : Room k A)
    (e0 : Env0 X.prog X.w X.K X.mg X.base A (X.stack) s H) (hx : Passes CX X E) (I : Inv X pins σ H s) (q : sp [.ref a] H Q E)
    (k1 : ∀ z H' u s', Inv X pins σ H' s' → RelV z u → Q z H' → B u s') : wpAny (model X.prog X.w) A (call (.ref f) [.ref a]) B X.xe s := by
  have hl := F.len _ _ _ _ q
  have r2 : Vals [V.ref a] [Value.ref a] := .cons rfl .nil
  refine wpAny_call (codeAny_mono (F.run A X.stack s H ⟨[.ref a], []⟩ [.ref a] [.ref a] Q E hr e0 (by
    have := hb s [.ref a] I.kIn (by simpa using hl)
    simpa using this) r2 q) fun r s' hq => ?_)
  cases r with
  | error e => exact hx pins σ H s e s' I hq
  | ok fl =>
    cases fl with
    | ret w =>
      obtain ⟨z, H', I', rz, qz⟩ := I.after hq
      exact k1 z H' w s' I' rz qz
    | next => exact False.elim hq
    | brk => exact False.elim hq
    | cont => exact False.elim hq
theorem call_ownS (c : CalS X.prog X.w X.K X.mg X.base CX k C "__str__" sp) (hr : Room (k + 2) X.A) (hx : Passes CX X E) : CallR X (.type "str") (cOwnS C sp E) := by
  intro pins s σ H xs us Q I r h
  obtain ⟨a, dx, fs, rfl, ha, q⟩ := h
  obtain ⟨u, rfl, ru⟩ := vals1 r
  cases (show u = Value.ref a from ru)
  obtain ⟨f, fd, F, hs, hf, hb⟩ := c.ex
  obtain ⟨mA, J, _⟩ := ins_get I.hok ha
  obtain ⟨od, J, _⟩ := J.look
  refine PySem.W.kso_call hr.in1.in1.units0 I.kIn J hs hf (run1 F hb hr.in1.in1 I.env0.in1.in1 hx I q fun z H' u s' I' rz qz => ?_)
  obtain ⟨y, rfl, qz⟩ := qz
  obtain ⟨t, rfl⟩ := (show ∃ t, u = Value.str y t from rz)
  exact ⟨.str y, H', I', ⟨t, rfl⟩, qz⟩
theorem call_ownB (c : CalS X.prog X.w X.K X.mg X.base CX k C "__bool__" sp) (hr : Room (k + 2) X.A) (hx : Passes CX X E) : CallR X (.type "bool") (cOwnB C sp E) := by
  intro pins s σ H xs us Q I r h
  obtain ⟨a, dx, fs, rfl, ha, q⟩ := h
  obtain ⟨u, rfl, ru⟩ := vals1 r
  cases (show u = Value.ref a from ru)
  obtain ⟨f, fd, F, hs, hf, hb⟩ := c.ex
  obtain ⟨mA, J, _⟩ := ins_get I.hok ha
  obtain ⟨od, J, _⟩ := J.look
  refine PySem.W.rvo_bool I.kIn J hs hf (run1 F hb hr.in1.in1 I.env0.in1.in1 hx I q fun z H' u s' I' rz qz => ?_)
  obtain ⟨y, rfl, qz⟩ := qz
  cases (show u = Value.bool y from rz)
  exact ⟨.bl y, H', I', rfl, qz⟩
theorem call_ownA (c : CalS X.prog X.w X.K X.mg X.base CX k C "__abs__" sp) (hr : Room (k + 1) X.A) (hx : Passes CX X E) : CallR X (.builtin "abs") (cOwn1 C sp E) := by
  intro pins s σ H xs us Q I r h
  obtain ⟨a, dx, fs, rfl, ha, q⟩ := h
  obtain ⟨u, rfl, ru⟩ := vals1 r
  cases (show u = Value.ref a from ru)
  obtain ⟨f, fd, F, hs, hf, hb⟩ := c.ex
  obtain ⟨mA, J, _⟩ := ins_get I.hok ha
  obtain ⟨od, J, _⟩ := J.look
  exact PySem.W.rvo_abs I.kIn J hs hf (run1 F hb hr.in1 I.env0.in1 hx I q fun z H' u s' I' rz qz => ⟨z, H', I', rz, qz⟩)
theorem un_ownN (c : CalS X.prog X.w X.K X.mg X.base CX k C "__neg__" sp) (hr : Room k X.A) (hx : Passes CX X E) : UnR X (unaryOp .USub) (rOwnU C sp E) := by
  intro pins s σ H x v Q I rx h
  obtain ⟨a, dx, fs, rfl, ha, q⟩ := h
  cases (show v = Value.ref a from rx)
  obtain ⟨f, fd, F, hs, hf, hb⟩ := c.ex
  obtain ⟨mA, J, _⟩ := ins_get I.hok ha
  obtain ⟨od, J, _⟩ := J.look
  obtain ⟨m, hF⟩ := I.fr
  exact PySem.W.ksp_neg hF I.ok.mod.kin J hs hf (run1 F hb hr I.env0 hx I q fun z H' u s' I' rz qz => ⟨z, H', I', rz, qz⟩)
end
end Rv
namespace Rv
open PySem PySem.Spec PyProof.Rows L2
/-- floor division by any number but zero -/
def CDivZ (i j : Int) : Prop := j ≠ 0 ∧ j.natAbs.log2 < 9000
theorem op_fdivZ {X : Cx} : OpR X (binaryOp .FloorDiv) (rI CDivZ fun i j => .int (i.fdiv j)) := opI fun i j _ _ _ _ _ hc q => by
  exact floordiv_int hc.1 q (.inl (PyProof.noPylong_of_log2 hc.2))
abbrev cStrI : List V → Hp → VK → Prop := fun xs H Q => ∃ i : Int, xs = [.int i] ∧ i.natAbs.log2 < 1920 ∧ Q (.str (toString i)) H
def cBool1 : List V → Hp → VK → Prop := fun xs H Q => (∃ i, xs = [.int i] ∧ Q (.bl (i != 0)) H) ∨ ∃ k, xs = [.bl k] ∧ Q (.bl k) H
/-- C(..) whose __init__ may raise, at the state in which the call stands -/
def tMakeX (C : Addr) (sp : Sp) (dvs : List V) (E : L2.St → XK) (t : TA) : TE := fun σ H Q => t σ H fun vs H1 => ∀ x dx, H1 x = none → H1 dx = none → dx ≠ x →
  sp (.ref x :: (vs ++ dvs)) (upd (upd H1 dx (.own x)) x (.ins C dx [])) (fun v H2 => v = .non ∧ Q (.ref x) H2) (E σ)
section
variable {X : Cx} {CX : CXT} {k : Nat} {f C : Addr} {fd : FuncData} {ps : List Str} {sp : Sp} {E : L2.St → XK} {x : Str} {p pos : Pos} {e : Expr} {es : List Expr} {t : TA} {dvs : List V} {ds : List Value}
theorem run_makeX {pins : List (Addr × Obj)} {σ : L2.St} {H : Hp} {s : Shared} {Q : VK} {us : List Value} {vs : List V} (M : Mk X.K C f) (F : FnOk X.prog X.w X.K X.mg X.base CX k f fd ps sp) (hr : Room (k + 1) X.A) (hb : Binds X.K fd ps ds) (hd : Vals dvs ds)
    (hx : PassesAt CX X σ (E σ)) (I : Inv X pins σ H s) (r : Vals vs us)
    (h : ∀ x dx, H x = none → H dx = none → dx ≠ x → sp (.ref x :: (vs ++ dvs)) (upd (upd H dx (.own x)) x (.ins C dx [])) (fun v H2 => v = .non ∧ Q (.ref x) H2) (E σ)) :
    wpAny (model X.prog X.w) X.A (call (.ref C) us) (EP X pins σ Q) X.xe s := by
  have hq := h (s.heap.objs.size + 1) s.heap.objs.size (I.hok.fresh (Nat.le_succ _)) (I.hok.fresh (Nat.le_refl _)) (Nat.ne_of_lt (Nat.lt_succ_self _))
  have I2 := Inv.made (C := C) I
  have r2 : Vals (V.ref (s.heap.objs.size + 1) :: (vs ++ dvs)) (Value.ref (s.heap.objs.size + 1) :: (us ++ ds)) := .cons rfl (r.append hd)
  have hl : (Value.ref (s.heap.objs.size + 1) :: us ++ ds).length = ps.length := by
    have e := r2.length
    rw [F.len _ _ _ _ hq] at e
    exact e.symm
  refine wpAny_call (make_map (f := f) I.kIn M.makes M.init (beq_iff_eq.mp M.fn) (codeAny_mono (F.run _ X.stack _ _ ⟨Value.ref (s.heap.objs.size + 1) :: us, []⟩ (Value.ref (s.heap.objs.size + 1) :: (us ++ ds)) _ _ (E σ) (hr.make C us [])
    (I2.env0.make C us []) (hb _ (Value.ref (s.heap.objs.size + 1) :: us) I2.kIn hl) r2 hq) fun r s' hq' => ?_))
  cases r with
  | error e => exact hx pins _ _ e s' I2 hq'
  | ok fl =>
    cases fl with
    | ret u =>
      obtain ⟨v, H', I3, rv, ev, q3⟩ := I2.after hq'
      subst ev
      exact ⟨rv, ⟨V.ref (s.heap.objs.size + 1), H', I3, rfl, q3⟩⟩
    | next => exact False.elim hq'
    | brk => exact False.elim hq'
    | cont => exact False.elim hq'
theorem pe_calmX (c : CalM X.prog X.w X.K X.mg X.base CX k x C ps sp dvs) (hr : Room (k + 1) X.A) (hg : Gl X x) (hx : ∀ σ, PassesAt CX X σ (E σ))
    (ha : PA X (e :: es) t) (hdb : (x == ("__debug__" : Str)) = false := by decide) (he : starEach (e :: es) X.env = (false, eval e X.env) :: starEach es X.env := by rfl) (hpl : (backTo pos (starEach es X.env)).any (·.1) = false := by rfl) :
    PE X (.Call (.Name x p) (e :: es) [] pos) (tMakeX C sp dvs E t) := by
  obtain ⟨f, fd, ds, F, M, hm, hb, hd⟩ := c.ex
  refine ⟨fun pins s σ H Q I h => ?_⟩
  refine wpAny_Call_Name_kw (ld_glob I hg hm ?_ hdb)
  refine PySem.W.callWith_K (h₀ := X.base) I.ok.mod.kin M.kp (thn (ha.run pos pins s σ H _ I h) fun us s1 ⟨vs, H1, I1, r, q⟩ => ⟨I1.kIn, ?_⟩) he hpl
  exact run_makeX M F hr hb hd (hx σ) I1 r q
end
theorem w_makeX {sp : Sp} {dvs : List V} {E : L2.St → XK} {tr : TA} {C : Addr} {σ : L2.St} {H : Hp} {Q : VK} (q : tr σ H fun vs H1 => ∀ x dx, H1 x = none → H1 dx = none → dx ≠ x → sp (.ref x :: (vs ++ dvs)) (upd (upd H1 dx (.own x)) x (.ins C dx [])) (fun v H2 => v = .non ∧ Q (.ref x) H2) (E σ)) : tMakeX C sp dvs E tr σ H Q := q
/-- the exception InvalidNumber -/
structure NX1 (K : PySem.W.Frag) (CN CE : Addr) : Prop where
  ox : OexG K CN "ValueError" "ValueError.__new__" "ValueError.__init__" bm_ValueError
  no : PySem.W.findIn K (.ref CN) "value" = some none
  em : PySem.W.exmOne K (.ref CN) (.ref CN) = some true
  ki : PySem.W.kitOne K (.ref CN) (.ref CE) = some true
theorem nx1_of {K : PySem.W.Frag} (h1 : oxB K "InvalidNumber" "ValueError.__new__" bm_ValueError = true) (h2 : decide (PySem.W.findIn K (.ref (He.ga K "InvalidNumber")) "value" = some none) = true) (h : nx1B K = true) : NX1 K (He.ga K "InvalidNumber") (He.ga K "RainError") := by
  obtain ⟨g1, g2⟩ := He.ba h
  exact ⟨ox_ok PySem.F.excBase_ValueError mok_ve h1, of_decide_eq_true h2, of_decide_eq_true g1, of_decide_eq_true g2⟩
/-- the exception of the class at C with the value v leaves -/
def Rz1 (H : Hp) (C : Addr) (v : V) (E : XK) : Prop := ∀ d H', H d = none → Same H H' → H' d = some (.xd [("value", v)]) → E (.ref C) (some d) H'
def zn (n d : Int) : Int := if d < 0 then -n else n
def zd (d : Int) : Int := if d < 0 then -d else d
def zt (n d : Int) : Int := zn n d / (Int.gcd (zn n d) (zd d) : Int)
def zb (n d : Int) : Int := zd d / (Int.gcd (zn n d) (zd d) : Int)
theorem zred {n d : Int} (h : d ≠ 0) : Red (zn n d) (zd d) (zt n d) (zb n d) := red_gcd (by unfold zd; split <;> omega)
/-- what Ratio(v, u) finds wrong first -/
def bad1 (v u : V) : Option V := if isI v = false then some v else if isI u = false then some u else if u = .int 0 then some u else none
def spRInitX (K : PySem.W.Frag) (C CN : Addr) : Sp := fun vs H Q E => ∃ p dx v u, vs = [.ref p, v, u] ∧ RCls K C ∧ OexG K CN "ValueError" "ValueError.__new__" "ValueError.__init__" bm_ValueError ∧ PySem.W.findIn K (.ref CN) "value" = some none ∧ H p = some (.ins C dx []) ∧ Whole K H v ∧ Whole K H u ∧
  (∀ z, bad1 v u = some z → Rz1 H CN z E) ∧
  ∀ n d, v = .int n → u = .int d → d ≠ 0 → Sz 8000 d ∧ ∀ H', RatAt C H' p (zt n d) (zb n d) → (∀ c o, c ≠ p → H c = some o → H' c = some o) → Q .non H'
def stext (t b : Int) : Str := if b = 1 then Str.ofString (toString t) else (Str.ofString (toString t) ++ ("/" : Str)) ++ Str.ofString (toString b)
def Sm (z : Int) : Prop := z.natAbs < 10 ^ 40
def spFloor (K : PySem.W.Frag) (C : Addr) : Sp := fun vs H Q _ => ∃ a t b, vs = [.ref a] ∧ RCls K C ∧ RatAt C H a t b ∧ Sz 8000 b ∧ Q (.int (t / b)) H
def spBoolR (K : PySem.W.Frag) (C : Addr) : Sp := fun vs H Q _ => ∃ a t b, vs = [.ref a] ∧ RCls K C ∧ RatAt C H a t b ∧ Q (.bl (!decide (t = 0))) H
def spStrR (K : PySem.W.Frag) (C : Addr) : Sp := fun vs H Q _ => ∃ a t b, vs = [.ref a] ∧ RCls K C ∧ RatAt C H a t b ∧ Sm t ∧ Sm b ∧ Q (.str (stext t b)) H
def spNegR (K : PySem.W.Frag) (C CN : Addr) : Sp := fun vs H Q _ => ∃ a t b, vs = [.ref a] ∧ RCls K C ∧ OexG K CN "ValueError" "ValueError.__new__" "ValueError.__init__" bm_ValueError ∧ PySem.W.findIn K (.ref CN) "value" = some none ∧ RatAt C H a t b ∧ Sz 8000 b ∧ ∀ q H', Same H H' → RatAt C H' q (-t) b → Q (.ref q) H'
def spAbsR (K : PySem.W.Frag) (C CN : Addr) : Sp := fun vs H Q _ => ∃ a t b, vs = [.ref a] ∧ RCls K C ∧ OexG K CN "ValueError" "ValueError.__new__" "ValueError.__init__" bm_ValueError ∧ PySem.W.findIn K (.ref CN) "value" = some none ∧ RatAt C H a t b ∧ Sz 8000 b ∧ ∀ q H', Same H H' → RatAt C H' q (if t < 0 then -t else t) b → Q (.ref q) H'
def spLWhole01 (K : PySem.W.Frag) : Sp := fun vs H Q _ => ∃ d : Addr, vs = [.ref d] ∧ RvM.PoolAt H d ∧ ∀ r H', r.natAbs ≤ 2 * 10 ^ 30 → But d H H' → RvM.PoolAt H' d → Q (.int r) H'
def spSaid (K : PySem.W.Frag) (C CN CE : Addr) : Sp := fun vs H Q _ => ∃ v u y1 y2, vs = [v, u] ∧ RCls K C ∧ RKi K C ∧ NX1 K CN CE ∧ Odd C H v y1 ∧ Odd C H u y2 ∧
  (isI v = false → ∀ r H', Same H H' → H' r = some (.lst [.str y1, .bl true]) → Q (.ref r) H') ∧
  (isI v = true → (isI u = false ∨ u = .int 0) → ∀ r H', Same H H' → H' r = some (.lst [.str y2, .bl true]) → Q (.ref r) H') ∧
  (isI v = true → isI u = true → u ≠ .int 0 → ∀ H', Same H H' → Q (.str "done") H')
def spRight01 (K : PySem.W.Frag) (C CN : Addr) : Sp := fun vs H Q _ => ∃ n d : Int, vs = [.int n, .int d] ∧ RCls K C ∧ OexG K CN "ValueError" "ValueError.__new__" "ValueError.__init__" bm_ValueError ∧ PySem.W.findIn K (.ref CN) "value" = some none ∧ d ≠ 0 ∧ n.natAbs < 10 ^ 40 ∧ d.natAbs < 10 ^ 40 ∧ ∀ H', Same H H' → Q (.bl true) H'
def spLaw01 (K : PySem.W.Frag) (C CN CE : Addr) : Sp := fun vs H Q _ => ∃ (a : Addr) (ns : List Int), vs = [.ref a] ∧ ns.length ≤ 63 ∧ SqL K H a (ns.map V.int) ∧ RCls K C ∧ RKi K C ∧ NX1 K CN CE ∧ ∀ H', Q (.bl true) H'
def t_Ratio___init__X (K : PySem.W.Frag) (C_Ratio : Addr) (C_InvalidNumber : Addr) (E : XK) : TS :=
  (tSeq (tIfS (tNot (tB (tCall (spWhole K) [] E0 (tCons (tVar 1) tNil)))) (tRaise (tMkO C_InvalidNumber (spExc K C_InvalidNumber "ValueError" "ValueError.__new__" "ValueError.__init__" bm_ValueError "value") [] (tCons (tVar 1) tNil)) E) tNext)
    (tSeq (tIfS (tOr (tNot (tB (tCall (spWhole K) [] E0 (tCons (tVar 2) tNil)))) (tTest (tOp rEq (tVar 2) (tC (.int 0))))) (tRaise (tMkO C_InvalidNumber (spExc K C_InvalidNumber "ValueError" "ValueError.__new__" "ValueError.__init__" bm_ValueError "value") [] (tCons (tVar 2) tNil)) E) tNext)
    (tSeq (tAsg (tCall (spGcd K) [] E0 (tCons (tCB cAbs (tCons (tVar 1) tNil)) (tCons (tCB cAbs (tCons (tVar 2) tNil)) tNil))) (gName 3))
    (tSeq (tIfS (tTest (tOp oLt (tVar 2) (tC (.int 0)))) (tAsg (tUn (rU fun i => .int (-i)) (tVar 3)) (gName 3)) tNext)
    (tSeq (sFld K (tVar 0) (tOp (rI CDivZ fun i j => .int (i.fdiv j)) (tVar 1) (tVar 3)) "reduced_top")
    (sFld K (tVar 0) (tOp (rI CDivZ fun i j => .int (i.fdiv j)) (tVar 2) (tVar 3)) "reduced_bottom"))))))
def t_Ratio_floor (K : PySem.W.Frag) (C_Ratio : Addr) : TS :=
  (tRet (tOp oDiv (tFld K (tVar 0) "reduced_top") (tFld K (tVar 0) "reduced_bottom")))
def t_Ratio___neg__ (K : PySem.W.Frag) (C_Ratio : Addr) (C_InvalidNumber : Addr) : TS :=
  (tRet (tMake C_Ratio (spRInitX K C_Ratio C_InvalidNumber) [] E0 (tCons (tUn (rU fun i => .int (-i)) (tFld K (tVar 0) "reduced_top")) (tCons (tFld K (tVar 0) "reduced_bottom") tNil))))
def t_Ratio___abs__ (K : PySem.W.Frag) (C_Ratio : Addr) (C_InvalidNumber : Addr) : TS :=
  (tRet (tMake C_Ratio (spRInitX K C_Ratio C_InvalidNumber) [] E0 (tCons (tCB cAbs (tCons (tFld K (tVar 0) "reduced_top") tNil)) (tCons (tFld K (tVar 0) "reduced_bottom") tNil))))
def t_Ratio___bool__ (K : PySem.W.Frag) (C_Ratio : Addr) : TS :=
  (tRet (tCB cBool1 (tCons (tOp rNe (tFld K (tVar 0) "reduced_top") (tC (.int 0))) tNil)))
def t_Ratio___str__ (K : PySem.W.Frag) (C_Ratio : Addr) : TS :=
  (tSeq (tIfS (tTest (tOp rEq (tFld K (tVar 0) "reduced_bottom") (tC (.int 1)))) (tRet (tCB cStrI (tCons (tFld K (tVar 0) "reduced_top") tNil))) tNext)
    (tRet (tJoin [(tFmt (tFld K (tVar 0) "reduced_top")), (tC (.str "/")), (tFmt (tFld K (tVar 0) "reduced_bottom"))])))
def t__law_whole01 (K : PySem.W.Frag) : TS :=
  (tSeq (tAsg (tOp (rIxL K) (tLst (tCons (tC (.int 10)) (tCons (tC (.int 1000)) (tCons (tOp oPow (tC (.int 10)) (tC (.int 30))) tNil)))) (tCall (RvM.spTake K) [] E0 (tCons (tVar 0) (tCons (tC (.int 3)) tNil)))) (gName 1))
    (tSeq (tAsg (tOp (rIxL K) (tLst (tCons (tC (.int 0)) (tCons (tOp oPow (tC (.int 10)) (tC (.int 29))) tNil))) (tOp oMulW (tCB cInt (tCons (tOp oGt (tVar 1) (tC (.int 1000))) tNil)) (tCall (RvM.spTake K) [] E0 (tCons (tVar 0) (tCons (tC (.int 2)) tNil))))) (gName 2))
    (tRet (tOp oMulW (tOp oAdd (tCall (RvM.spTake K) [] E0 (tCons (tVar 0) (tCons (tVar 1) tNil))) (tVar 2)) (tOp (rIxL K) (tLst (tCons (tC (.int 1)) (tCons (tUn (rU fun i => .int (-i)) (tC (.int 1))) tNil))) (tCall (RvM.spTake K) [] E0 (tCons (tVar 0) (tCons (tC (.int 2)) tNil))))))))
def t__law_said (K : PySem.W.Frag) (C_Ratio : Addr) (C_InvalidNumber : Addr) (C_RainError : Addr) : TS :=
  (tSeq (tTryAs K (.ref C_InvalidNumber) 2 (fun W => (tDrop (tMakeX C_Ratio (spRInitX K C_Ratio C_InvalidNumber) [] (WE W) (tCons (tVar 0) (tCons (tVar 1) tNil))))) (fun xa xcls xd => (tRet (tLst (tCons (tCB (cReprA K C_Ratio (spRRepr K C_Ratio)) (tCons (tXf xa xcls xd C_InvalidNumber "value" (tVar 2)) tNil)) (tCons (tCB (rIsD K C_InvalidNumber xa xcls xd) (tCons (tVar 2) (tCons (tC (.ref C_RainError)) tNil))) tNil))))) (fun _ _ _ _ => False))
    (tRet (tC (.str "done"))))
def t__law_right01 (K : PySem.W.Frag) (C_Ratio : Addr) (C_InvalidNumber : Addr) : TS :=
  (tSeq (tAsg (tMake C_Ratio (spRInitX K C_Ratio C_InvalidNumber) [] E0 (tCons (tVar 0) (tCons (tVar 1) tNil))) (gName 2))
    (tSeq (tAsg (tOp oMulW (tCall (spGcd K) [] E0 (tCons (tCB cAbs (tCons (tVar 0) tNil)) (tCons (tCB cAbs (tCons (tVar 1) tNil)) tNil))) (tOp (rIxL K) (tLst (tCons (tC (.int 1)) (tCons (tUn (rU fun i => .int (-i)) (tC (.int 1))) tNil))) (tCB cInt (tCons (tOp oLt (tVar 1) (tC (.int 0))) tNil)))) (gName 3))
    (tSeq (tPar 4 5 (tCons (tOp (rI CDivZ fun i j => .int (i.fdiv j)) (tVar 0) (tVar 3)) (tCons (tOp (rI CDivZ fun i j => .int (i.fdiv j)) (tVar 1) (tVar 3)) tNil)))
    (tSeq (tIfS (tTest (tOp (rNeD K) (tLst (tCons (tProp C_Ratio (getSp C_Ratio "reduced_top") [] E0 (tVar 2)) (tCons (tProp C_Ratio (getSp C_Ratio "reduced_bottom") [] E0 (tVar 2)) tNil))) (tLst (tCons (tVar 4) (tCons (tVar 5) tNil))))) (tRet (tC (.bl false))) tNext)
    (tSeq (tIfS (tTest (tOp rNe (tCB (cReprA K C_Ratio (spRRepr K C_Ratio)) (tCons (tVar 2) tNil)) (tOp rCatS (tOp rCatS (tOp rCatS (tOp rCatS (tC (.str "Ratio(")) (tCB cStrI (tCons (tVar 4) tNil))) (tC (.str ", "))) (tCB cStrI (tCons (tVar 5) tNil))) (tC (.str ")"))))) (tRet (tC (.bl false))) tNext)
    (tSeq (tIfS (tTest (tOp rNe (tCB (cOwnS C_Ratio (spStrR K C_Ratio) E0) (tCons (tVar 2) tNil)) (tIf (tTest (tOp rEq (tVar 5) (tC (.int 1)))) (tCB cStrI (tCons (tVar 4) tNil)) (tOp rCatS (tOp rCatS (tCB cStrI (tCons (tVar 4) tNil)) (tC (.str "/"))) (tCB cStrI (tCons (tVar 5) tNil)))))) (tRet (tC (.bl false))) tNext)
    (tSeq (tIfS (tTest (tOp rNe (tCB (cOwnB C_Ratio (spBoolR K C_Ratio) E0) (tCons (tVar 2) tNil)) (tOp rNe (tVar 0) (tC (.int 0))))) (tRet (tC (.bl false))) tNext)
    (tSeq (tPar 6 7 (tCons (tUn (rOwnU C_Ratio (spNegR K C_Ratio C_InvalidNumber) E0) (tVar 2)) (tCons (tCB (cOwn1 C_Ratio (spAbsR K C_Ratio C_InvalidNumber) E0) (tCons (tVar 2) tNil)) tNil)))
    (tSeq (tIfS (tTest (tOp (rNeD K) (tLst (tCons (tProp C_Ratio (getSp C_Ratio "reduced_top") [] E0 (tVar 6)) (tCons (tProp C_Ratio (getSp C_Ratio "reduced_bottom") [] E0 (tVar 6)) tNil))) (tLst (tCons (tOp oSub (tC (.int 0)) (tVar 4)) (tCons (tVar 5) tNil))))) (tRet (tC (.bl false))) tNext)
    (tSeq (tIfS (tTest (tOp (rNeD K) (tLst (tCons (tProp C_Ratio (getSp C_Ratio "reduced_top") [] E0 (tVar 7)) (tCons (tProp C_Ratio (getSp C_Ratio "reduced_bottom") [] E0 (tVar 7)) tNil))) (tLst (tCons (tCB cAbs (tCons (tVar 4) tNil)) (tCons (tVar 5) tNil))))) (tRet (tC (.bl false))) tNext)
    (tSeq (tAsg (tMeth C_Ratio "floor" (spFloor K C_Ratio) [] E0 (tVar 2) tNil) (gName 8))
    (tRet (tAndV (tCB (rIsi K) (tCons (tVar 8) (tCons (tC (.ty "int")) tNil))) (tChain oLe oLt (tOp oMulW (tVar 8) (tVar 5)) (tVar 4) (tOp oMulW (tOp oAdd (tVar 8) (tC (.int 1))) (tVar 5))))))))))))))))
def t_law01 (K : PySem.W.Frag) (C_Ratio : Addr) (C_InvalidNumber : Addr) (C_RainError : Addr) : TS :=
  (tSeq (tFor (iList K (tLst (tCons (tC .non) (tCons (tC (.bl true)) (tCons (tC (.bl false)) (tCons (tC (.str "1")) (tCons (tTup (tCons (tC (.int 1)) tNil)) (tCons (tLst (tCons (tC (.int 1)) tNil)) (tCons (tMake C_Ratio (spRInitX K C_Ratio C_InvalidNumber) [.int 1] E0 (tCons (tC (.int 1)) tNil)) tNil))))))))) (gName 1) (tIfS (tOr (tTest (tOp (rNeD K) (tCall (spSaid K C_Ratio C_InvalidNumber C_RainError) [] E0 (tCons (tVar 1) (tCons (tC (.int 0)) tNil))) (tLst (tCons (tCB (cReprA K C_Ratio (spRRepr K C_Ratio)) (tCons (tVar 1) tNil)) (tCons (tC (.bl true)) tNil))))) (tTest (tOp (rNeD K) (tCall (spSaid K C_Ratio C_InvalidNumber C_RainError) [] E0 (tCons (tC (.int 1)) (tCons (tVar 1) tNil))) (tLst (tCons (tCB (cReprA K C_Ratio (spRRepr K C_Ratio)) (tCons (tVar 1) tNil)) (tCons (tC (.bl true)) tNil)))))) (tRet (tC (.bl false))) tNext))
    (tSeq (tIfS (tOr (tTest (tOp (rNeD K) (tCall (spSaid K C_Ratio C_InvalidNumber C_RainError) [] E0 (tCons (tC (.int 1)) (tCons (tC (.int 0)) tNil))) (tLst (tCons (tC (.str "0")) (tCons (tC (.bl true)) tNil))))) (tTest (tOp rNe (tCall (spSaid K C_Ratio C_InvalidNumber C_RainError) [] E0 (tCons (tC (.int 0)) (tCons (tUn (rU fun i => .int (-i)) (tC (.int 1))) tNil))) (tC (.str "done"))))) (tRet (tC (.bl false))) tNext)
    (tSeq (tIfS (tTest (tOp rNe (tCB (cReprA K C_Ratio (spRRepr K C_Ratio)) (tCons (tMake C_Ratio (spRInitX K C_Ratio C_InvalidNumber) [] E0 (tCons (tC (.int 0)) (tCons (tUn (rU fun i => .int (-i)) (tC (.int 5))) tNil))) tNil)) (tC (.str "Ratio(0, 1)")))) (tRet (tC (.bl false))) tNext)
    (tSeq (tFor (iRng1 (tCons (tCB cMax2 (tCons (tC (.int 1)) (tCons (tCB cMin2 (tCons (tC (.int 20)) (tCons (tCB (cLen K) (tCons (tVar 0) tNil)) tNil))) tNil))) tNil)) (gName 2) (tSeq (tAsg (tCall (RvM.spPool K) [] E0 (tCons (tVar 0) (tCons (tVar 2) tNil))) (gName 3))
    (tSeq (tPar 4 5 (tCons (tCall (spLWhole01 K) [] E0 (tCons (tVar 3) tNil)) (tCons (tCall (spLWhole01 K) [] E0 (tCons (tVar 3) tNil)) tNil)))
    (tSeq (tAsg (tOp oAdd (tC (.int 1)) (tCall (RvM.spTake K) [] E0 (tCons (tVar 3) (tCons (tC (.int 60)) tNil)))) (gName 6))
    (tSeq (tAsg (tLst (tCons (tTup (tCons (tVar 4) (tCons (tVar 5) tNil))) (tCons (tTup (tCons (tVar 6) (tCons (tVar 4) tNil))) (tCons (tTup (tCons (tVar 4) (tCons (tC (.int 1)) tNil))) tNil)))) (gName 7))
    (tFor (iList K (tOp rCat (tVar 7) (tLst (tCons (tTup (tCons (tOp oMulW (tVar 4) (tVar 6)) (tCons (tOp oMulW (tVar 5) (tVar 6)) tNil))) tNil)))) (gTup K 2 (gCons (gName 8) (gCons (gName 9) gNil))) (tIfS (tAnd (tTest (tOp rNe (tVar 9) (tC (.int 0)))) (tNot (tB (tCall (spRight01 K C_Ratio C_InvalidNumber) [] E0 (tCons (tVar 8) (tCons (tVar 9) tNil)))))) (tRet (tC (.bl false))) tNext)))))))
    (tRet (tAndV (tOp rEq (tCB (cReprA K C_Ratio (spRRepr K C_Ratio)) (tCons (tMakeK C_Ratio 0 2 (spRInitX K C_Ratio C_InvalidNumber) (fun vs zs => vs ++ pick [1, 0] zs) E0 tNil (tCons (tC (.int 4)) (tCons (tC (.int 6)) tNil))) tNil)) (tC (.str "Ratio(3, 2)"))) (tOp rEq (tCB (cReprA K C_Ratio (spRRepr K C_Ratio)) (tCons (tMake C_Ratio (spRInitX K C_Ratio C_InvalidNumber) [.int 1] E0 (tCons (tC (.int 7)) tNil)) tNil)) (tC (.str "Ratio(7, 1)")))))))))
abbrev t__law_divisor (K : PySem.W.Frag) : TS := t_common_divisor K
local macro_rules | `(tactic| walk_at "rv st") => `(tactic| first
  | with_reducible refine iteT ?_ | with_reducible refine iteF ?_ | with_reducible refine w_nx ?_ | with_reducible refine w_yes ?_ | with_reducible refine w_rt ?_ | with_reducible refine iteNT ?_ | with_reducible refine iteNF ?_ | with_reducible refine iteNRf ?_ | with_reducible refine iteRf ?_ | with_reducible refine w_seqA ?_ | with_reducible refine w_seqD ?_ | with_reducible refine w_seqP ?_ | with_reducible refine w_asg ?_ | with_reducible refine w_ret ?_ | with_reducible refine w_drop ?_ | with_reducible refine w_ifs ?_ | with_reducible refine w_next ?_ | with_reducible refine w_par ?_
  | with_reducible refine w_op ?_ | with_reducible refine w_un ?_ | ((with_reducible show tVar _ _ _ _); refine' w_var ?hv ?_; (case hv => exact rfl)) | with_reducible refine w_c ?_ | with_reducible refine w_test ?_ | with_reducible refine w_tB ?_
  | with_reducible refine w_bl ?_ | with_reducible refine w_I0 ?_ | with_reducible refine w_U ?_ | with_reducible refine w_eqI ?_ | with_reducible refine w_neI ?_
  | with_reducible refine w_cons ?_ | with_reducible refine w_nil ?_ | with_reducible refine w_gn ?_ | with_reducible refine w_gsub ?_ | with_reducible refine w_and ?_ | with_reducible refine w_or ?_ | with_reducible refine w_not ?_
  | with_reducible refine w_andV ?_ | with_reducible refine w_orV ?_ | with_reducible refine w_notV ?_ | with_reducible refine w_if ?_ | with_reducible refine w_cb ?_ | with_reducible refine w_call ?_ | with_reducible refine w_lst ?_ | with_reducible refine w_tup ?_
  | with_reducible refine w_sl ?_ | with_reducible refine w_noPart ?_ | with_reducible refine w_part ?_ | with_reducible refine w_ex1 ?_ | with_reducible refine w_exb ?_ | with_reducible refine w_intB ?_ | with_reducible refine w_intI ?_ | with_reducible refine w_abs ?_)
local macro_rules | `(tactic| walk_at "rv ix") => `(tactic| ((with_reducible show rIxL _ _ _ _ _); refine' w_ixL (sq_lst ?ha) ?hb ?_; (case ha => first | exact upd_same | assumption); (case hb => first | exact rfl | assumption)))
local macro_rules | `(tactic| walk_at "rv ar") => `(tactic| first
  | (refine' w_I ?hc ?_; (case hc => first | (show (0 : Int) < _; first | assumption | decide | omega) | exact pow_c (by decide) (by decide) (by first | decide | omega) (by first | decide | omega) | exact mul_r (by first | decide | omega) (by first | decide | omega) | exact mul_l (by first | decide | omega) (by first | decide | omega) | exact divw (by first | assumption | decide | omega) (by first | assumption | decide | omega))))
local macro_rules | `(tactic| walk_at "rv go") => `(tactic| repeat first | walk_at "rv st" | walk_at "rv ix" | ((with_reducible show rI _ _ _ _ _ _); walk_at "rv ar"))
theorem exc_new1 {K : PySem.W.Frag} {C : Addr} {H : Hp} {E : XK} {v : V} (ox : OexG K C "ValueError" "ValueError.__new__" "ValueError.__init__" bm_ValueError) (no : PySem.W.findIn K (.ref C) "value" = some none) (k : Rz1 H C v E) :
    [v].length ≤ 1000 ∧ ∀ a, H a = none → spExc K C "ValueError" "ValueError.__new__" "ValueError.__init__" bm_ValueError "value" (.ref a :: ([v] ++ [])) (upd H a (exo a C none))
      (fun v H2 => v = .non ∧ ∃ (d : Addr) (fs : List (Str × V)), H2 a = some (exo a C (some d)) ∧ H2 d = some (exd d fs) ∧ H d = none ∧ E (.ref C) (some d) (upd (del H2 a) d (.xd fs))) (fun _ _ _ => False) :=
  exc_new ox no fun d H' nd e hd => k d H' nd e hd
theorem fdiv_neg' (n g : Int) (hg : 0 < g) : n.fdiv (-g) = (-n) / g := by
  have e := Int.neg_fdiv_neg (-n) g
  rw [Int.neg_neg] at e
  rw [e, Int.fdiv_eq_ediv_of_nonneg _ (by omega)]
theorem gcd_abs (n d : Int) : Int.gcd (if n < 0 then -n else n) (if d < 0 then -d else d) = Int.gcd (zn n d) (zd d) := by
  have e1 : (if n < 0 then -n else n).natAbs = (zn n d).natAbs := by unfold zn; split <;> split <;> omega
  show Nat.gcd _ _ = Nat.gcd _ _
  rw [e1]
  rfl
theorem p_rinitX {K : PySem.W.Frag} {C CN : Addr} {vs : List V} {H : Hp} {Q : VK} {E : XK} (h : spRInitX K C CN vs H Q E) : t_Ratio___init__X K C CN E { nx := fun _ H' => Q .non H', rt := Q } (start ["self", "numerator", "denominator", "divisor"] vs) H := by
  obtain ⟨p, dx, v, u, rfl, R, ox, no, hp, W, W', kb, k⟩ := h
  unfold t_Ratio___init__X
  refine w_seq ?_
  walk_at "rv go"
  refine ⟨v, rfl, W, ?_⟩
  cases c : isI v with
  | false =>
    walk_at "rv go"
    refine w_raise ?_
    refine w_mkO ?_
    walk_at "rv go"
    exact exc_new1 ox no (kb v (by unfold bad1; rw [if_pos c]))
  | true =>
    obtain ⟨n, rfl⟩ := isI_int c
    walk_at "rv go"
    refine w_seq ?_
    walk_at "rv go"
    refine ⟨u, rfl, W', ?_⟩
    cases g : isI u with
    | false =>
      walk_at "rv go"
      refine w_raise ?_
      refine w_mkO ?_
      walk_at "rv go"
      exact exc_new1 ox no (kb u (by unfold bad1; rw [if_neg (by rw [c]; decide), if_pos g]))
    | true =>
      obtain ⟨d, rfl⟩ := isI_int g
      walk_at "rv go"
      by_cases z : d = 0
      · rw [decide_eq_true z]
        walk_at "rv go"
        refine w_raise ?_
        refine w_mkO ?_
        walk_at "rv go"
        exact exc_new1 ox no (kb _ (by unfold bad1; rw [if_neg (by rw [c]; decide), if_neg (by rw [g]; decide), if_pos (by rw [z])]))
      · rw [decide_eq_false z]
        obtain ⟨sd, k⟩ := k n d rfl rfl z
        walk_at "rv go"
        refine ⟨_, _, rfl, by split <;> omega, by split <;> omega, ?_⟩
        rw [gcd_abs]
        have pd : 0 < zd d := by unfold zd; split <;> omega
        have red := zred (n := n) z
        have g0 : 0 < Int.gcd (zn n d) (zd d) := Int.gcd_pos_iff.mpr (.inr (by omega))
        have gd : Int.gcd (zn n d) (zd d) ≤ d.natAbs := by
          have q1 := Int.le_of_dvd pd (Int.gcd_dvd_right (a := zn n d) (b := zd d))
          have q2 : zd d = (d.natAbs : Int) := by unfold zd; split <;> omega
          omega
        have e1 : zt n d = zn n d / (Int.gcd (zn n d) (zd d) : Int) := rfl
        have e2 : zb n d = zd d / (Int.gcd (zn n d) (zd d) : Int) := rfl
        have sg : Sz 8000 (Int.gcd (zn n d) (zd d) : Int) := by
          unfold Sz at *
          rw [Int.natAbs_natCast]
          omega
        obtain ⟨g', hg'⟩ : ∃ g' : Int, g' = (Int.gcd (zn n d) (zd d) : Int) := ⟨_, rfl⟩
        rw [← hg'] at e1 e2 sg ⊢
        have g1 : 0 < g' := by omega
        clear hg' g0 gd
        have fin : ∀ j : Int, Sz 8000 j → j ≠ 0 → n.fdiv j = zt n d → d.fdiv j = zb n d → ∀ {N : L2.St → Hp → Prop}, (∀ σ' H', Q .non H' → N σ' H') → ∀ {D : Ends}, D.nx = N →
            tSeq (sFld K (tVar 0) (tOp (rI CDivZ fun i j => .int (i.fdiv j)) (tVar 1) (tVar 3)) "reduced_top") (sFld K (tVar 0) (tOp (rI CDivZ fun i j => .int (i.fdiv j)) (tVar 2) (tVar 3)) "reduced_bottom") D [some (.ref p), some (.int n), some (.int d), some (.int j)] H := by
          intro j sj j0 q1 q2 N hN D hD
          have cd : ∀ z : Int, CDivZ z j := fun z => ⟨j0, Nat.lt_of_lt_of_le (PySem.Flt.log2_lt_of (by decide) sj) (by decide)⟩
          refine w_seq ?_
          refine w_sfld ?_
          walk_at "rv go"
          refine w_I (cd _) ?_
          walk_at "rv go"
          refine w_put hp R.cl R.nT (by decide) ?_
          refine w_nx ?_
          refine w_sfld ?_
          walk_at "rv go"
          refine w_I (cd _) ?_
          walk_at "rv go"
          refine w_put upd_same R.cl R.nB (by show 1 < 1000; decide) ?_
          rw [hD]
          refine hN _ _ ?_
          rw [q1, q2]
          refine k _ ⟨⟨red.pos, red.low⟩, dx, upd_same⟩ (fun b o hne hb => ?_)
          rw [upd_ne hne, upd_ne hne]
          exact hb
        walk_at "rv go"
        refine w_seq ?_
        walk_at "rv go"
        by_cases s : d < 0
        · rw [decide_eq_true s]
          walk_at "rv go"
          refine fin (-g') ?_ (by omega) ?_ ?_ (fun _ _ q => q) rfl
          · unfold Sz at *
            rw [Int.natAbs_neg]
            exact sg
          · rw [fdiv_neg' _ _ g1, e1, zn, if_pos s]
          · rw [fdiv_neg' _ _ g1, e2, zd, if_pos s]
        · rw [decide_eq_false s]
          walk_at "rv go"
          refine fin g' sg (by omega) ?_ ?_ (fun _ _ q => q) rfl
          · rw [Int.fdiv_eq_ediv_of_nonneg _ (by omega), e1, zn, if_neg s]
          · rw [Int.fdiv_eq_ediv_of_nonneg _ (by omega), e2, zd, if_neg s]
theorem mk_ratX {K : PySem.W.Frag} {C CN : Addr} {H : Hp} {Q : Addr → Hp → Prop} {E : XK} {n d : Int} {us dvs : List V} (hu : us ++ dvs = [.int n, .int d]) (R : RCls K C) (ox : OexG K CN "ValueError" "ValueError.__new__" "ValueError.__init__" bm_ValueError) (no : PySem.W.findIn K (.ref CN) "value" = some none) (hd : d ≠ 0) (sd : Sz 8000 d) (k : ∀ x H', Same H H' → RatAt C H' x (zt n d) (zb n d) → Q x H') :
    ∀ x dx, H x = none → H dx = none → dx ≠ x → spRInitX K C CN (.ref x :: (us ++ dvs)) (upd (upd H dx (.own x)) x (.ins C dx [])) (fun v H2 => v = .non ∧ Q x H2) E := by
  intro x dx nx ndx hne
  rw [hu]
  have s0 : Same H (upd (upd H dx (.own x)) x (.ins C dx [])) := fun b o hb => by
    rw [upd_ne (ne_of_none hb nx), upd_ne (ne_of_none hb ndx)]
    exact hb
  refine ⟨x, dx, .int n, .int d, rfl, R, ox, no, upd_same, .int n, .int d, fun z e => ?_, fun n' d' e1 e2 _ => ?_⟩
  · unfold bad1 at e
    change (if true = false then some (V.int n) else if true = false then some (V.int d) else if V.int d = .int 0 then some (V.int d) else none) = some z at e
    rw [if_neg (show ¬ true = false by decide), if_neg (show ¬ true = false by decide), if_neg (fun w => hd (V.int.inj w))] at e
    cases e
  · cases e1
    cases e2
    exact ⟨sd, fun H' hr hf => ⟨rfl, k x H' (fun b o hb => hf b o (ne_of_none hb nx) (s0 b o hb)) hr⟩⟩
theorem z_low {t b : Int} (hb : 0 < b) (g : Int.gcd t b = 1) : zt t b = t ∧ zb t b = b := by
  have e1 : zn t b = t := by unfold zn; rw [if_neg (by omega)]
  have e2 : zd b = b := by unfold zd; rw [if_neg (by omega)]
  unfold zt zb
  rw [e1, e2, g]
  exact ⟨Int.ediv_one _, Int.ediv_one _⟩
theorem p_floorR {K : PySem.W.Frag} {C : Addr} {vs : List V} {H : Hp} {Q : VK} {E : XK} (h : spFloor K C vs H Q E) : t_Ratio_floor K C { nx := fun _ H' => Q .non H', rt := Q } (start ["self"] vs) H := by
  obtain ⟨a, t, b, rfl, R, ⟨⟨pb, gb⟩, dx, ha⟩, sb, k⟩ := h
  unfold t_Ratio_floor
  walk_at "rv go"
  refine w_fld rfl ha R.cl R.nT (rfl2_t _ _) ?_
  refine w_fld rfl ha R.cl R.nB (rfl2_b _ _) ?_
  refine w_I (wide_div (b := 8000) pb sb (by decide) (by decide)) ?_
  exact k
theorem p_boolR {K : PySem.W.Frag} {C : Addr} {vs : List V} {H : Hp} {Q : VK} {E : XK} (h : spBoolR K C vs H Q E) : t_Ratio___bool__ K C { nx := fun _ H' => Q .non H', rt := Q } (start ["self"] vs) H := by
  obtain ⟨a, t, b, rfl, R, ⟨⟨pb, gb⟩, dx, ha⟩, k⟩ := h
  unfold t_Ratio___bool__
  walk_at "rv go"
  refine w_fld rfl ha R.cl R.nT (rfl2_t _ _) ?_
  walk_at "rv go"
  exact .inr ⟨_, rfl, k⟩
theorem p_negR {K : PySem.W.Frag} {C CN : Addr} {vs : List V} {H : Hp} {Q : VK} {E : XK} (h : spNegR K C CN vs H Q E) : t_Ratio___neg__ K C CN { nx := fun _ H' => Q .non H', rt := Q } (start ["self"] vs) H := by
  obtain ⟨a, t, b, rfl, R, ox, no, ⟨⟨pb, gb⟩, dx, ha⟩, sb, k⟩ := h
  unfold t_Ratio___neg__
  walk_at "rv go"
  refine w_make ?_
  walk_at "rv go"
  refine w_fld rfl ha R.cl R.nT (rfl2_t _ _) ?_
  walk_at "rv go"
  refine w_fld rfl ha R.cl R.nB (rfl2_b _ _) ?_
  walk_at "rv go"
  refine mk_ratX rfl R ox no (by omega) sb fun x H' e hr => ?_
  obtain ⟨q1, q2⟩ := z_low (t := -t) pb (by rw [Int.neg_gcd]; exact gb)
  rw [q1, q2] at hr
  exact k x H' e hr
theorem p_absR {K : PySem.W.Frag} {C CN : Addr} {vs : List V} {H : Hp} {Q : VK} {E : XK} (h : spAbsR K C CN vs H Q E) : t_Ratio___abs__ K C CN { nx := fun _ H' => Q .non H', rt := Q } (start ["self"] vs) H := by
  obtain ⟨a, t, b, rfl, R, ox, no, ⟨⟨pb, gb⟩, dx, ha⟩, sb, k⟩ := h
  unfold t_Ratio___abs__
  walk_at "rv go"
  refine w_make ?_
  walk_at "rv go"
  refine w_fld rfl ha R.cl R.nT (rfl2_t _ _) ?_
  walk_at "rv go"
  refine w_fld rfl ha R.cl R.nB (rfl2_b _ _) ?_
  walk_at "rv go"
  refine mk_ratX rfl R ox no (by omega) sb fun x H' e hr => ?_
  obtain ⟨q1, q2⟩ := z_low (t := if t < 0 then -t else t) pb (by split; · rw [Int.neg_gcd]; exact gb
                                                                 · exact gb)
  rw [q1, q2] at hr
  exact k x H' e hr
theorem p_strR {K : PySem.W.Frag} {C : Addr} {vs : List V} {H : Hp} {Q : VK} {E : XK} (h : spStrR K C vs H Q E) : t_Ratio___str__ K C { nx := fun _ H' => Q .non H', rt := Q } (start ["self"] vs) H := by
  obtain ⟨a, t, b, rfl, R, ⟨⟨pb, gb⟩, dx, ha⟩, ht, hb, k⟩ := h
  have sb := sizeLine_big
  have z1 := big_text ht
  have z2 := big_text hb
  have l1 : ("/" : Str).length = 1 := by decide +kernel
  unfold t_Ratio___str__
  refine w_seq ?_
  walk_at "rv go"
  refine w_fld rfl ha R.cl R.nB (rfl2_b _ _) ?_
  walk_at "rv go"
  by_cases c : b = 1
  · rw [decide_eq_true c]
    walk_at "rv go"
    refine w_fld rfl ha R.cl R.nT (rfl2_t _ _) ?_
    walk_at "rv go"
    refine ⟨t, rfl, big_log ht, ?_⟩
    unfold stext at k
    rw [if_pos c] at k
    exact k
  · rw [decide_eq_false c]
    unfold stext at k
    rw [if_neg c] at k
    walk_at "rv go"
    refine w_join ?_
    refine w_js ?_
    show tFld K (tVar 0) "reduced_top" _ _ _
    refine w_fld rfl ha R.cl R.nT (rfl2_t _ _) ?_
    refine .inr ⟨t, rfl, big_log ht, ?_⟩
    refine ⟨_, rfl, by rw [str_empty]; omega, ?_⟩
    rw [str_empty]
    refine w_js ?_
    walk_at "rv go"
    refine ⟨_, rfl, by rw [str_len, l1]; omega, ?_⟩
    refine w_js ?_
    show tFld K (tVar 0) "reduced_bottom" _ _ _
    refine w_fld rfl ha R.cl R.nB (rfl2_b _ _) ?_
    refine .inr ⟨b, rfl, big_log hb, ?_⟩
    refine ⟨_, rfl, by rw [str_len, str_len, l1]; omega, ?_⟩
    exact k
theorem sg_of {r : Int} (h0 : 0 ≤ r) (h1 : r < 2) : r = 0 ∨ r = 1 := by omega
theorem p_lwhole01 {K : PySem.W.Frag} {vs : List V} {H : Hp} {Q : VK} {E : XK} (h : spLWhole01 K vs H Q E) : t__law_whole01 K { nx := fun _ H' => Q .non H', rt := Q } (start ["_law_pool_here", "_law_size", "_law_more"] vs) H := by
  obtain ⟨d, rfl, P, k⟩ := h
  unfold t__law_whole01
  walk_at "rv go"
  refine ⟨szl (by show 3 ≤ 100000; decide), fun l nl => ?_⟩
  have e1 := same_new (o := .lst [.int 10, .int 1000, .int (10 ^ Int.toNat 30)]) (Same.refl H) nl
  have ql : (upd H l (.lst [.int 10, .int 1000, .int (10 ^ Int.toNat 30)])) l = some (.lst [.int 10, .int 1000, .int (10 ^ Int.toNat 30)]) := upd_same
  generalize upd H l (.lst [.int 10, .int 1000, .int (10 ^ Int.toNat 30)]) = H1 at e1 ql ⊢
  walk_at "rv go"
  have P1 := P.same e1
  refine RvM.take_call P1 (by decide) (by decide) fun r H2 r0 r1 b2 P2 => ?_
  have ql2 := b2 _ _ (P.nd nl) ql
  obtain ⟨sz, hsz, s1, s2, s3⟩ : ∃ sz : Int, atI ([.int 10, .int 1000, .int (10 ^ Int.toNat 30)] : List V) r = some (.int sz) ∧ 0 < sz ∧ sz ≤ 10 ^ 30 ∧ sz < 2 ^ 200 := by
    rcases (show r = 0 ∨ r = 1 ∨ r = 2 by omega) with rfl | rfl | rfl
    · exact ⟨10, rfl, by decide, by decide, by decide⟩
    · exact ⟨1000, rfl, by decide, by decide, by decide⟩
    · exact ⟨10 ^ Int.toNat 30, rfl, by decide, by decide, by decide⟩
  refine w_ixL (sq_lst ql2) hsz ?_
  walk_at "rv go"
  refine ⟨szl (by show 2 ≤ 100000; decide), fun l' nl' => ?_⟩
  have np : l' ≠ d := P2.nd nl'
  have e3 := same_new (o := .lst [.int 0, .int (10 ^ Int.toNat 29)]) (Same.refl H2) nl'
  have ql' : (upd H2 l' (.lst [.int 0, .int (10 ^ Int.toNat 29)])) l' = some (.lst [.int 0, .int (10 ^ Int.toNat 29)]) := upd_same
  generalize upd H2 l' (.lst [.int 0, .int (10 ^ Int.toNat 29)]) = H3 at e3 ql' ⊢
  walk_at "rv go"
  refine RvM.take_call (P2.same e3) (by decide) (by decide) fun r2 H4 r20 r21 b4 P4 => ?_
  have ql4 := b4 _ _ np ql'
  have hw : ∀ w : Bool, (if w = true then (1 : Int) else 0) = 0 ∨ (if w = true then (1 : Int) else 0) = 1 := fun w => by cases w <;> simp
  have hu := hw (decide ((1000 : Int) < sz))
  generalize (if decide ((1000 : Int) < sz) = true then (1 : Int) else 0) = u at hu ⊢
  have su : Sz 2 u := by unfold Sz; rcases hu with rfl | rfl <;> decide
  have sr2 : Sz 2 r2 := by unfold Sz; rcases sg_of r20 r21 with rfl | rfl <;> decide
  walk_at "rv go"
  refine w_I (mulw su sr2 (by decide) (by decide) (by decide)) ?_
  obtain ⟨m, hm, m0, m1⟩ : ∃ m : Int, atI ([.int 0, .int (10 ^ Int.toNat 29)] : List V) (u * r2) = some (.int m) ∧ 0 ≤ m ∧ m ≤ 10 ^ 29 := by
    rcases hu with rfl | rfl
    · exact ⟨0, by rw [Int.zero_mul]; rfl, by decide, by decide⟩
    · rcases sg_of r20 r21 with rfl | rfl
      · exact ⟨0, rfl, by decide, by decide⟩
      · exact ⟨10 ^ Int.toNat 29, rfl, by decide, by decide⟩
  refine w_ixL (sq_lst ql4) hm ?_
  walk_at "rv go"
  refine RvM.take_call P4 s1 s3 fun x H5 x0 x1 b5 P5 => ?_
  walk_at "rv go"
  refine ⟨szl (by show 2 ≤ 100000; decide), fun l2 nl2 => ?_⟩
  have e6 := same_new (o := .lst [.int 1, .int (-1)]) (Same.refl H5) nl2
  have ql6 : (upd H5 l2 (.lst [.int 1, .int (-1)])) l2 = some (.lst [.int 1, .int (-1)]) := upd_same
  have np2 : l2 ≠ d := P5.nd nl2
  generalize upd H5 l2 (.lst [.int 1, .int (-1)]) = H6 at e6 ql6 ⊢
  walk_at "rv go"
  refine RvM.take_call (P5.same e6) (by decide) (by decide) fun y H7 y0 y1 b7 P7 => ?_
  have ql7 := b7 _ _ np2 ql6
  obtain ⟨g, hg, g1⟩ : ∃ g : Int, atI ([.int 1, .int (-1)] : List V) y = some (.int g) ∧ g.natAbs = 1 := by
    rcases sg_of y0 y1 with rfl | rfl
    · exact ⟨1, rfl, rfl⟩
    · exact ⟨-1, rfl, rfl⟩
  refine w_ixL (sq_lst ql7) hg ?_
  have sx : Sz 200 (x + m) := by
    have : (x + m).natAbs ≤ 2 * 10 ^ 30 := by omega
    exact Nat.lt_of_le_of_lt this (by decide)
  refine w_I (mulw sx (show Sz 2 g by unfold Sz; rw [g1]; decide) (by decide) (by decide) (by decide)) ?_
  refine k _ H7 ?_ ?_ P7
  · rw [Int.natAbs_mul, g1, Nat.mul_one]
    omega
  · exact ((((But.same e1).trans (b2.trans (But.same e3))).trans (b4.trans b5)).trans (But.same e6)).trans b7
theorem sh_l1 {y : Str} (h : PyData.strOk y = true) : SeqAt.shaped (PyData.list [.str y, .bool true]) = true := by
  simp [SeqAt.shaped, PyData.canLay0, PyData.canLayAll0, PyData.depth, PyData.depthAll, h]
theorem p_said {K : PySem.W.Frag} {C CN CE : Addr} {vs : List V} {H : Hp} {Q : VK} {E : XK} (h : spSaid K C CN CE vs H Q E) : t__law_said K C CN CE { nx := fun _ H' => Q .non H', rt := Q } (start ["_law_top", "_law_bottom", "e"] vs) H := by
  obtain ⟨v, u, y1, y2, rfl, R, rk, X, ov, ou, k1, k2, k3⟩ := h
  unfold t__law_said
  refine w_seq ?_
  refine st_is [some v, some u, none] rfl ?_
  show tDrop _ _ _ _
  walk_at "rv go"
  show tMakeX _ _ _ _ _ _ _ _
  refine w_makeX ?_
  walk_at "rv go"
  intro x dx nx ndx hne
  have s0 : Same H (upd (upd H dx (.own x)) x (.ins C dx [])) := fun b o hb => by
    rw [upd_ne (ne_of_none hb nx), upd_ne (ne_of_none hb ndx)]
    exact hb
  refine ⟨x, dx, v, u, rfl, R, X.ox, X.no, upd_same, (ov.same s0).wh R rk, (ou.same s0).wh R rk, fun z ez => ?_, fun n d e1 e2 hd => ?_⟩
  · intro dd H1 nd e1 hd
    refine ⟨true, X.em, fun _ e ne => ?_, fun z => nomatch z⟩
    have go : ∀ y, Odd C H z y → (∀ r H', Same H H' → H' r = some (.lst [.str y, .bl true]) → Q (.ref r) H') → tRet (tLst (tCons (tCB (cReprA K C (spRRepr K C)) (tCons (tXf e (.ref CN) (some dd) CN "value" (tVar 2)) tNil)) (tCons (tCB (rIsD K CN e (.ref CN) (some dd)) (tCons (tVar 2) (tCons (tC (.ref CE)) tNil))) tNil)))
        { nx := fun σ' H' => tRet (tC (.str "done")) { nx := fun _ H' => Q .non H', rt := Q } (σ'.set 2 none) H', rt := Q } [some v, some u, some (.ref e)] H1 := by
      intro y oz kk
      walk_at "rv go"
      refine w_xf rfl hd rfl ?_
      walk_at "rv go"
      refine ((oz.same s0).same e1).rp R ?_
      walk_at "rv go"
      refine w_isD (cv := .ref CE) (fun u r => r) hd X.ki ?_
      walk_at "rv go"
      refine ⟨szl (by show 2 ≤ 100000; omega), fun r nr => ?_⟩
      exact kk r _ ((s0.trans e1).trans (same_new (Same.refl H1) nr)) upd_same
    unfold bad1 at ez
    split at ez
    · rename_i c
      cases ez
      exact go y1 ov (k1 c)
    · rename_i c
      have c' : isI v = true := by cases q : isI v <;> simp_all
      split at ez
      · rename_i c2
        cases ez
        exact go y2 ou (k2 c' (.inl c2))
      · split at ez
        · rename_i c3
          cases ez
          exact go y2 ou (k2 c' (.inr c3))
        · cases ez
  · subst e1
    subst e2
    refine ⟨?_, fun H' hr hf => ⟨rfl, ?_⟩⟩
    · cases ou with
      | int i h => exact (Nat.lt_of_lt_of_le h (by decide))
    · walk_at "rv go"
      exact k3 rfl rfl (fun w => hd (V.int.inj w)) H' (fun b o hb => hf b o (ne_of_none hb nx) (s0 b o hb))
theorem w_neR {x y : V} {H : Hp} {Q : VK} (h : scal x y = true) (e : x = y) (q : Q (.bl false) H) : rNe x y H Q := ⟨h, by
  rw [decide_eq_true e]
  exact q⟩
theorem zdiv {n d g : Int} (hd : d ≠ 0) (sd : Sz 8000 d) (hg : g = if d < 0 then -1 else 1) :
    (∀ z : Int, CDivZ z ((Int.gcd (zn n d) (zd d) : Int) * g)) ∧ n.fdiv ((Int.gcd (zn n d) (zd d) : Int) * g) = zt n d ∧ d.fdiv ((Int.gcd (zn n d) (zd d) : Int) * g) = zb n d := by
  have pd : 0 < zd d := by unfold zd; split <;> omega
  have g0 : 0 < Int.gcd (zn n d) (zd d) := Int.gcd_pos_iff.mpr (.inr (by omega))
  have gd : Int.gcd (zn n d) (zd d) ≤ d.natAbs := by
    have q1 := Int.le_of_dvd pd (Int.gcd_dvd_right (a := zn n d) (b := zd d))
    have q2 : zd d = (d.natAbs : Int) := by unfold zd; split <;> omega
    omega
  have e1 : zt n d = zn n d / (Int.gcd (zn n d) (zd d) : Int) := rfl
  have e2 : zb n d = zd d / (Int.gcd (zn n d) (zd d) : Int) := rfl
  have sg : Sz 8000 (Int.gcd (zn n d) (zd d) : Int) := by
    unfold Sz at *
    rw [Int.natAbs_natCast]
    omega
  obtain ⟨g', hg'⟩ : ∃ g' : Int, g' = (Int.gcd (zn n d) (zd d) : Int) := ⟨_, rfl⟩
  rw [← hg'] at e1 e2 sg ⊢
  have g1 : 0 < g' := by omega
  by_cases s : d < 0
  · rw [if_pos s] at hg
    have ej : g' * g = -g' := by rw [hg]; omega
    have sj : Sz 8000 (-g') := by
      unfold Sz at *
      rw [Int.natAbs_neg]
      exact sg
    rw [ej]
    refine ⟨fun z => ⟨by omega, Nat.lt_of_lt_of_le (PySem.Flt.log2_lt_of (by decide) sj) (by decide)⟩, ?_, ?_⟩
    · rw [fdiv_neg' _ _ g1, e1, zn, if_pos s]
    · rw [fdiv_neg' _ _ g1, e2, zd, if_pos s]
  · rw [if_neg s] at hg
    rw [hg, Int.mul_one]
    refine ⟨fun z => ⟨by omega, Nat.lt_of_lt_of_le (PySem.Flt.log2_lt_of (by decide) sg) (by decide)⟩, ?_, ?_⟩
    · rw [Int.fdiv_eq_ediv_of_nonneg _ (by omega), e1, zn, if_neg s]
    · rw [Int.fdiv_eq_ediv_of_nonneg _ (by omega), e2, zd, if_neg s]
theorem zt_zero {n d : Int} (hd : d ≠ 0) : decide (zt n d = 0) = decide (n = 0) := by
  have r := zred (n := n) hd
  have pd : 0 < zd d := by unfold zd; split <;> omega
  have e := r.eq
  have pb := r.pos
  refine decide_eq_decide.mpr ⟨fun h => ?_, fun h => ?_⟩
  · rw [h, Int.zero_mul] at e
    rcases Int.mul_eq_zero.mp e.symm with h | h
    · unfold zn at h
      split at h <;> omega
    · omega
  · have : zn n d = 0 := by unfold zn; split <;> omega
    rw [this, Int.zero_mul] at e
    rcases Int.mul_eq_zero.mp e with h | h <;> omega
theorem w_neP {K : PySem.W.Frag} {C : Addr} {σ : L2.St} {H : Hp} {Q : VK} {i : Nat} {q dx : Addr} {t b : Int} {tb : TE} (hi : σ[i]? = some (some (.ref q))) (hq : H q = some (.ins C dx (rfl2 t b)))
    (k : ∀ l H', Same H H' → H' l = some (.lst [.int t, .int b]) → tb σ H' fun y H2 => rNeD K (.ref l) y H2 Q) : tOp (rNeD K) (tLst (tCons (tProp C (getSp C "reduced_top") [] E0 (tVar i)) (tCons (tProp C (getSp C "reduced_bottom") [] E0 (tVar i)) tNil))) tb σ H Q := by
  refine w_op ?_
  refine w_lst ?_
  refine w_cons ?_
  refine w_prop hi hq ?_
  refine ⟨q, dx, _, _, rfl, hq, rfl2_t _ _, ?_⟩
  refine w_cons ?_
  refine w_prop hi hq ?_
  refine ⟨q, dx, _, _, rfl, hq, rfl2_b _ _, ?_⟩
  refine w_nil ?_
  exact ⟨szl (by show 2 ≤ 100000; decide), fun l nl => k l _ (same_new (Same.refl H) nl) upd_same⟩
theorem w_strIf {σ : L2.St} {H : Hp} {Q : VK} {t b : Int} (h4 : σ[4]? = some (some (.int t))) (h5 : σ[5]? = some (some (.int b))) (ht : t.natAbs < 10 ^ 40) (hb : b.natAbs < 10 ^ 40) (q : Q (.str (stext t b)) H) :
    tIf (tTest (tOp rEq (tVar 5) (tC (.int 1)))) (tCB cStrI (tCons (tVar 4) tNil)) (tOp rCatS (tOp rCatS (tCB cStrI (tCons (tVar 4) tNil)) (tC (.str "/"))) (tCB cStrI (tCons (tVar 5) tNil))) σ H Q := by
  have sb := sizeLine_big
  have z1 := big_text ht
  have z2 := big_text hb
  have l1 : ("/" : Str).length = 1 := by decide +kernel
  refine w_if ?_
  refine w_test ?_
  refine w_op ?_
  refine w_var h5 ?_
  refine w_c ?_
  refine w_eqI ?_
  refine ⟨_, rfl, ?_⟩
  unfold stext at q
  by_cases c : b = 1
  · rw [decide_eq_true c]
    rw [if_pos c] at q
    refine iteT ?_
    refine w_cb ?_
    refine w_cons ?_
    refine w_var h4 ?_
    refine w_nil ?_
    exact ⟨t, rfl, big_log ht, q⟩
  · rw [decide_eq_false c]
    rw [if_neg c] at q
    refine iteF ?_
    refine w_op ?_
    refine w_op ?_
    refine w_cb ?_
    refine w_cons ?_
    refine w_var h4 ?_
    refine w_nil ?_
    refine ⟨t, rfl, big_log ht, ?_⟩
    refine w_c ?_
    refine ⟨_, _, rfl, rfl, by show (Str.ofString (toString t)).length + ("/" : Str).length ≤ _; omega, ?_⟩
    refine w_cb ?_
    refine w_cons ?_
    refine w_var h5 ?_
    refine w_nil ?_
    refine ⟨b, rfl, big_log hb, ?_⟩
    refine ⟨_, _, rfl, rfl, ?_, q⟩
    rw [str_len]
    show (Str.ofString (toString t)).length + ("/" : Str).length + (Str.ofString (toString b)).length ≤ _
    omega
theorem dp_pair {K : PySem.W.Frag} {H : Hp} {l : Addr} {x y : Int} (h : H l = some (.lst [.int x, .int y])) : Dp K H (.ref l) (.list [.int x, .int y]) := .lst (sq_lst h) (dp_ints [x, y])
theorem sh_pair (x y : Int) : SeqAt.shaped (PyData.list [.int x, .int y]) = true := by
  simp [SeqAt.shaped, PyData.canLay0, PyData.canLayAll0, PyData.depth, PyData.depthAll]
theorem rfl2_floor (t b : Int) : (rfl2 t b).lookup ("floor" : Str) = none := by
  unfold rfl2
  rw [lookup_putF, if_neg (by decide +kernel), lookup_putF, if_neg (by decide +kernel)]
  rfl
theorem z_le {n d : Int} (hd : d ≠ 0) : (zt n d).natAbs ≤ n.natAbs ∧ (zb n d).natAbs ≤ d.natAbs := by
  have r := zred (n := n) hd
  have e1 : (zn n d).natAbs = n.natAbs := by unfold zn; split <;> omega
  have e2 : (zd d) = (d.natAbs : Int) := by unfold zd; split <;> omega
  refine ⟨by rw [← e1]; exact r.lt, ?_⟩
  have := r.pos
  have := r.le
  omega
theorem p_right01 {K : PySem.W.Frag} {C CN : Addr} {vs : List V} {H : Hp} {Q : VK} {E : XK} (h : spRight01 K C CN vs H Q E) : t__law_right01 K C CN { nx := fun _ H' => Q .non H', rt := Q } (start ["_law_top", "_law_bottom", "_law_ratio", "_law_divisor_here", "_law_one", "_law_other", "_law_opposite", "_law_size", "_law_low"] vs) H := by
  obtain ⟨n, d, rfl, R, ox, no, hd, hn40, hd40, k⟩ := h
  have sb := sizeLine_big
  have sd : Sz 8000 d := Nat.lt_of_lt_of_le hd40 (by decide)
  unfold t__law_right01
  refine w_seqA ?_
  refine w_make ?_
  walk_at "rv go"
  refine mk_ratX rfl R ox no hd sd fun q H1 e1 hq => ?_
  refine w_gn ?_
  refine w_seqA ?_
  walk_at "rv go"
  refine ⟨_, _, rfl, by split <;> omega, by split <;> omega, ?_⟩
  rw [gcd_abs]
  walk_at "rv go"
  refine ⟨szl (by show 2 ≤ 100000; decide), fun l nl => ?_⟩
  have e2 := same_new (o := .lst [.int 1, .int (-1)]) e1 nl
  have hq2 := hq.same (same_new (o := .lst [.int 1, .int (-1)]) (Same.refl H1) nl)
  have ql : (upd H1 l (.lst [.int 1, .int (-1)])) l = some (.lst [.int 1, .int (-1)]) := upd_same
  generalize upd H1 l (.lst [.int 1, .int (-1)]) = H2 at e2 hq2 ql ⊢
  walk_at "rv go"
  obtain ⟨g, hg, eg⟩ : ∃ g : Int, atI ([.int 1, .int (-1)] : List V) (if decide (d < 0) = true then (1 : Int) else 0) = some (.int g) ∧ g = if d < 0 then -1 else 1 := by
    by_cases s : d < 0
    · rw [decide_eq_true s, if_pos s]
      exact ⟨-1, rfl, rfl⟩
    · rw [decide_eq_false s, if_neg s]
      exact ⟨1, rfl, rfl⟩
  refine w_ixL (sq_lst ql) hg ?_
  have sgz : Sz 8000 (Int.gcd (zn n d) (zd d) : Int) := by
    have pd : 0 < zd d := by unfold zd; split <;> omega
    have q1 := Int.le_of_dvd pd (Int.gcd_dvd_right (a := zn n d) (b := zd d))
    have q2 : zd d = (d.natAbs : Int) := by unfold zd; split <;> omega
    unfold Sz at *
    rw [Int.natAbs_natCast]
    omega
  refine w_I (mulw sgz (show Sz 2 g by unfold Sz; rw [eg]; split <;> decide) (by decide) (by decide) (by decide)) ?_
  obtain ⟨cd, q1, q2⟩ := zdiv (n := n) hd sd eg
  have zt0 := zt_zero (n := n) hd
  obtain ⟨lt, lb⟩ := z_le (n := n) hd
  generalize zt n d = t at *
  generalize zb n d = b at *
  generalize (Int.gcd (zn n d) (zd d) : Int) * g = j at cd q1 q2 ⊢
  have ht40 : t.natAbs < 10 ^ 40 := Nat.lt_of_le_of_lt lt hn40
  have hb40 : b.natAbs < 10 ^ 40 := Nat.lt_of_le_of_lt lb hd40
  have sb' : Sz 8000 b := Nat.lt_of_lt_of_le hb40 (by decide)
  have sb2 : Sz 200 b := Nat.lt_of_lt_of_le hb40 (by decide)
  refine w_gn ?_
  refine w_seqP ?_
  walk_at "rv go"
  refine w_I (cd _) ?_
  walk_at "rv go"
  refine w_I (cd _) ?_
  walk_at "rv go"
  rw [q1, q2]
  refine ⟨_, _, rfl, ?_⟩
  refine st_is [some (.int n), some (.int d), some (.ref q), some (.int j), some (.int t), some (.int b), none, none, none] rfl ?_
  clear q1 q2 cd hg eg ql sgz
  obtain ⟨pp, dx, hqi⟩ := id hq2
  -- top and bottom
  refine w_seq ?_
  refine w_ifs ?_
  refine w_test ?_
  refine w_neP rfl hqi fun l1 H3 e3 hl1 => ?_
  walk_at "rv go"
  refine ⟨szl (by show 2 ≤ 100000; decide), fun l2 nl2 => ?_⟩
  refine neD_same (dp_same (same_new (Same.refl H3) nl2) _ _ (dp_pair hl1)) (dp_pair upd_same) (sh_pair _ _) ?_
  have e4 := (e2.trans e3).trans (same_new (o := .lst [.int t, .int b]) (Same.refl H3) nl2)
  have hq4 := (hq2.same e3).same (same_new (o := .lst [.int t, .int b]) (Same.refl H3) nl2)
  generalize upd H3 l2 (.lst [.int t, .int b]) = H4 at e4 hq4 ⊢
  clear e3 hl1 hqi nl2
  obtain ⟨_, dx4, hqi⟩ := id hq4
  walk_at "rv go"
  -- repr
  refine w_seq ?_
  walk_at "rv go"
  refine (Odd.rat t b hq4 ht40 hb40).rp R ?_
  walk_at "rv go"
  have z1 := big_text ht40
  have z2 := big_text hb40
  have lr : ("Ratio(" : Str).length = 6 := by decide +kernel
  refine ⟨t, rfl, big_log ht40, ?_⟩
  refine ⟨_, _, rfl, rfl, by show ("Ratio(" : Str).length + (Str.ofString (toString t)).length ≤ _; omega, ?_⟩
  refine ⟨_, _, rfl, rfl, by rw [str_len, lr, len_p2]; show 6 + (Str.ofString (toString t)).length + 2 ≤ _; omega, ?_⟩
  walk_at "rv go"
  refine ⟨b, rfl, big_log hb40, ?_⟩
  refine ⟨_, _, rfl, rfl, by rw [str_len, str_len, lr, len_p2]; show 6 + (Str.ofString (toString t)).length + 2 + (Str.ofString (toString b)).length ≤ _; omega, ?_⟩
  refine ⟨_, _, rfl, rfl, by rw [str_len, str_len, str_len, lr, len_p2, len_p3]; show 6 + (Str.ofString (toString t)).length + 2 + (Str.ofString (toString b)).length + 1 ≤ _; omega, ?_⟩
  refine w_neR rfl rfl ?_
  walk_at "rv go"
  -- str
  refine w_seq ?_
  walk_at "rv go"
  refine ⟨q, dx4, _, rfl, hqi, q, t, b, rfl, R, hq4, ht40, hb40, _, rfl, ?_⟩
  refine w_strIf rfl rfl ht40 hb40 ?_
  refine w_neR rfl rfl ?_
  walk_at "rv go"
  -- bool
  refine w_seq ?_
  walk_at "rv go"
  refine ⟨q, dx4, _, rfl, hqi, q, t, b, rfl, R, hq4, _, rfl, ?_⟩
  walk_at "rv go"
  rw [zt0]
  refine w_neR rfl rfl ?_
  walk_at "rv go"
  refine ⟨q, dx4, _, rfl, hqi, q, t, b, rfl, R, ox, no, hq4, sb', fun qm H5 e5 hm => ?_⟩
  walk_at "rv go"
  obtain ⟨_, dx5, hqi5⟩ := hq4.same e5
  refine ⟨q, dx5, _, rfl, hqi5, q, t, b, rfl, R, ox, no, hq4.same e5, sb', fun qa H6 e6 ha => ?_⟩
  walk_at "rv go"
  refine ⟨_, _, rfl, ?_⟩
  refine st_is [some (.int n), some (.int d), some (.ref q), some (.int j), some (.int t), some (.int b), some (.ref qm), some (.ref qa), none] rfl ?_
  have hm6 := hm.same e6
  have hq6 := (hq4.same e5).same e6
  have e06 := (e4.trans e5).trans e6
  clear hqi hqi5
  obtain ⟨_, dx6, hmi⟩ := id hm6
  refine w_seq ?_
  refine w_ifs ?_
  refine w_test ?_
  refine w_neP rfl hmi fun l3 H7 e7 hl3 => ?_
  walk_at "rv go"
  rw [show (0 : Int) - t = -t by omega]
  refine ⟨szl (by show 2 ≤ 100000; decide), fun l4 nl4 => ?_⟩
  refine neD_same (dp_same (same_new (Same.refl H7) nl4) _ _ (dp_pair hl3)) (dp_pair upd_same) (sh_pair _ _) ?_
  have e8 := e7.trans (same_new (o := .lst [.int (-t), .int b]) (Same.refl H7) nl4)
  generalize upd H7 l4 (.lst [.int (-t), .int b]) = H8 at e8 ⊢
  walk_at "rv go"
  obtain ⟨_, dx8, hai⟩ := ha.same e8
  refine w_seq ?_
  refine w_ifs ?_
  refine w_test ?_
  refine w_neP rfl hai fun l5 H9 e9 hl5 => ?_
  walk_at "rv go"
  refine ⟨szl (by show 2 ≤ 100000; decide), fun l6 nl6 => ?_⟩
  refine neD_same (dp_same (same_new (Same.refl H9) nl6) _ _ (dp_pair hl5)) (dp_pair upd_same) (sh_pair _ _) ?_
  have e10 := e9.trans (same_new (o := .lst [.int (if t < 0 then -t else t), .int b]) (Same.refl H9) nl6)
  generalize upd H9 l6 (.lst [.int (if t < 0 then -t else t), .int b]) = H10 at e10 ⊢
  walk_at "rv go"
  have hq10 := (hq6.same e8).same e10
  obtain ⟨_, dx10, hqi⟩ := id hq10
  refine w_meth ?_
  walk_at "rv go"
  refine ⟨q, dx10, _, rfl, hqi, rfl2_floor t b, ?_⟩
  walk_at "rv go"
  refine ⟨q, t, b, rfl, R, hq10, sb', ?_⟩
  walk_at "rv go"
  refine isi_of (b := true) (.ty "int") (.base (.int _)) (kit_ty (by decide +kernel)) ?_
  walk_at "rv go"
  have pb := pp.1
  have f1 : t / b * b ≤ t := Int.ediv_mul_le t (by omega)
  have f2 : t < (t / b + 1) * b := Int.lt_ediv_add_one_mul_self t pb
  have sf : Sz 200 (t / b) ∧ Sz 200 (t / b + 1) := by
    have a1 : (t / b).natAbs ≤ t.natAbs := Int.natAbs_ediv_le_natAbs t b
    refine ⟨Nat.lt_of_le_of_lt a1 (Nat.lt_of_lt_of_le ht40 (by decide)), ?_⟩
    refine Nat.lt_of_le_of_lt (m := 10 ^ 40) (by omega) (by decide)
  refine w_chain ?_
  walk_at "rv go"
  refine w_I (mulw sf.1 sb2 (by decide) (by decide) (by decide)) ?_
  walk_at "rv go"
  rw [decide_eq_true f1]
  walk_at "rv go"
  refine w_I (mulw sf.2 sb2 (by decide) (by decide) (by decide)) ?_
  walk_at "rv go"
  rw [decide_eq_true f2]
  exact k H10 ((e06.trans e8).trans e10)
theorem w_eqR {x y : V} {H : Hp} {Q : VK} (h : scal x y = true) (e : x = y) (q : Q (.bl true) H) : rEq x y H Q := ⟨h, by
  rw [decide_eq_true e]
  exact q⟩
theorem odd_small {C : Addr} {H : Hp} {q : Addr} {t b : Int} (h : RatAt C H q t b) (ht : t.natAbs < 10 ^ 40) (hb : b.natAbs < 10 ^ 40) : Odd C H (.ref q) (rtext t b) := .rat t b h ht hb
theorem dp_said {K : PySem.W.Frag} {H : Hp} {r : Addr} {y : Str} (h : H r = some (.lst [.str y, .bl true])) : Dp K H (.ref r) (.list [.str y, .bool true]) := .lst (sq_lst h) (.cons (.str _) (.cons (.bl _) .nil))
/-- the values that are no whole numbers -/
def Od1 (C : Addr) (H : Hp) (x : V) : Prop := ∃ y, Odd C H x y ∧ isI x = false
theorem Od1.same {C : Addr} {H H' : Hp} {x : V} (h : Od1 C H x) (e : Same H H') : Od1 C H' x := by
  obtain ⟨y, h1, h2⟩ := h
  exact ⟨y, h1.same e, h2⟩
theorem od1_all {C : Addr} {H : Hp} {t l q : Addr} {u v : Int} (h1 : H t = some (.tup [.int 1])) (h2 : H l = some (.lst [.int 1])) (h3 : RatAt C H q u v) (hu : u.natAbs < 10 ^ 40) (hv : v.natAbs < 10 ^ 40) :
    ∀ (m : Nat) (x : V), ([.non, .bl true, .bl false, .str "1", .ref t, .ref l, .ref q] : List V)[m]? = some x → Od1 C H x := fun m x hx => by
  match m, hx with
  | 0, hx => obtain rfl := Option.some.inj hx; exact ⟨_, .non, rfl⟩
  | 1, hx => obtain rfl := Option.some.inj hx; exact ⟨_, .bl true, rfl⟩
  | 2, hx => obtain rfl := Option.some.inj hx; exact ⟨_, .bl false, rfl⟩
  | 3, hx => obtain rfl := Option.some.inj hx; exact ⟨_, .str "1" (by decide +kernel) (by decide +kernel), rfl⟩
  | 4, hx => obtain rfl := Option.some.inj hx; exact ⟨_, .tup [1] h1 (by decide) (by decide) (by decide +kernel) (by decide +kernel), rfl⟩
  | 5, hx => obtain rfl := Option.some.inj hx; exact ⟨_, .lst [1] h2 (by decide) (by decide) (by decide +kernel) (by decide +kernel), rfl⟩
  | 6, hx => obtain rfl := Option.some.inj hx; exact ⟨_, .rat u v h3 hu hv, rfl⟩
theorem prs4 {G : Hp} {t1 t2 t3 t4 : Addr} {t b f : Int} (h1 : G t1 = some (.tup [.int t, .int b])) (h2 : G t2 = some (.tup [.int f, .int t])) (h3 : G t3 = some (.tup [.int t, .int 1])) (h4 : G t4 = some (.tup [.int (t * f), .int (b * f)])) (ht : t.natAbs ≤ 2 * 10 ^ 30) (hb : b.natAbs ≤ 2 * 10 ^ 30) (hf : f.natAbs ≤ 60) :
    ∀ (m : Nat) (x : V), (([.ref t1, .ref t2, .ref t3] ++ [.ref t4]) : List V)[m]? = some x → ∃ (r : Addr) (n d : Int), x = V.ref r ∧ G r = some (.tup [.int n, .int d]) ∧ n.natAbs < 10 ^ 40 ∧ d.natAbs < 10 ^ 40 := fun m x hx => by
  have pt : (t * f).natAbs < 10 ^ 40 := by
    rw [Int.natAbs_mul]
    exact Nat.lt_of_le_of_lt (Nat.mul_le_mul ht hf) (by decide)
  have pb : (b * f).natAbs < 10 ^ 40 := by
    rw [Int.natAbs_mul]
    exact Nat.lt_of_le_of_lt (Nat.mul_le_mul hb hf) (by decide)
  have lt' : t.natAbs < 10 ^ 40 := Nat.lt_of_le_of_lt ht (by decide)
  have lb' : b.natAbs < 10 ^ 40 := Nat.lt_of_le_of_lt hb (by decide)
  have lf' : f.natAbs < 10 ^ 40 := Nat.lt_of_le_of_lt hf (by decide)
  match m, hx with
  | 0, hx => exact ⟨t1, t, b, (Option.some.inj hx).symm, h1, lt', lb'⟩
  | 1, hx => exact ⟨t2, f, t, (Option.some.inj hx).symm, h2, lf', lt'⟩
  | 2, hx => exact ⟨t3, t, 1, (Option.some.inj hx).symm, h3, lt', by decide⟩
  | 3, hx => exact ⟨t4, t * f, b * f, (Option.some.inj hx).symm, h4, pt, pb⟩
theorem p_gcd01 {K : PySem.W.Frag} {vs : List V} {H : Hp} {Q : VK} {E : XK} (h : spGcd K vs H Q E) : t__law_divisor K { nx := fun _ H' => Q .non H', rt := Q } (start ["_law_one", "_law_other"] vs) H := p_gcd (E := E) h
theorem sz8 {z : Int} (h : z.natAbs ≤ 100) : Sz 8000 z := Nat.lt_of_le_of_lt h (Nat.lt_of_lt_of_le (show 100 < 2 ^ 7 by decide) (Nat.pow_le_pow_right (by decide) (by decide)))
theorem p_law01 {K : PySem.W.Frag} {C CN CE : Addr} {vs : List V} {H : Hp} {Q : VK} {E : XK} (h : spLaw01 K C CN CE vs H Q E) : t_law01 K C CN CE { nx := fun _ H' => Q .non H', rt := Q } (start ["_law_script", "_law_odd", "_law_k", "_law_pool_here", "_law_top", "_law_bottom", "_law_factor", "_law_pairs", "_law_one", "_law_other"] vs) H := by
  obtain ⟨a0, ns, rfl, hl63, hS, R, rk, X, k⟩ := h
  unfold t_law01
  refine w_seq ?_
  refine RvM.w_forLn ?_
  walk_at "rv go"
  refine ⟨szl (by show 1 ≤ 100000; decide), fun t1 nt1 => ?_⟩
  have f1 := same_new (o := .tup [.int 1]) (Same.refl H) nt1
  have q1 : (upd H t1 (.tup [.int 1])) t1 = some (.tup [.int 1]) := upd_same
  generalize upd H t1 (.tup [.int 1]) = G1 at f1 q1 ⊢
  walk_at "rv go"
  refine ⟨szl (by show 1 ≤ 100000; decide), fun t2 nt2 => ?_⟩
  have g2 := same_new (o := .lst [.int 1]) (Same.refl G1) nt2
  have q2 : (upd G1 t2 (.lst [.int 1])) t2 = some (.lst [.int 1]) := upd_same
  generalize upd G1 t2 (.lst [.int 1]) = G2 at g2 q2 ⊢
  walk_at "rv go"
  refine w_make ?_
  walk_at "rv go"
  refine mk_ratX (us := [.int 1]) (dvs := [.int 1]) rfl R X.ox X.no (by decide) (sz8 (by decide)) fun x1 G3 g3 hx1 => ?_
  rw [show zt 1 1 = 1 by decide, show zb 1 1 = 1 by decide] at hx1
  walk_at "rv go"
  refine ⟨szl (by show 7 ≤ 100000; decide), fun l nl => ⟨l, rfl, ?_⟩⟩
  have g4 := same_new (o := .lst [.non, .bl true, .bl false, .str "1", .ref t1, .ref t2, .ref x1]) (Same.refl G3) nl
  have ql : (upd G3 l (.lst [.non, .bl true, .bl false, .str "1", .ref t1, .ref t2, .ref x1])) l = some (.lst [.non, .bl true, .bl false, .str "1", .ref t1, .ref t2, .ref x1]) := upd_same
  generalize upd G3 l (.lst [.non, .bl true, .bl false, .str "1", .ref t1, .ref t2, .ref x1]) = G4 at g4 ql ⊢
  have e4 := ((f1.trans g2).trans g3).trans g4
  have P := od1_all (C := C) (g4 _ _ (g3 _ _ (g2 _ _ q1))) (g4 _ _ (g3 _ _ q2)) (hx1.same g4) (by decide) (by decide)
  refine RvM.w_forLa (sq_lst ql) (fun _ σ' H' => Same G4 H' ∧ ∃ o1, σ' = [some (.ref a0), o1, none, none, none, none, none, none, none, none]) ⟨Same.refl G4, _, rfl⟩ (fun _ σ' H' _ ⟨e, _⟩ => sq_lst (e _ _ ql)) ?_ ?_
  · rintro m x σ' H5 hx ⟨e5, o1, rfl⟩
    obtain ⟨y, od, ix⟩ := (P m x hx).same e5
    refine w_gn ?_
    refine st_is [some (.ref a0), some x, none, none, none, none, none, none, none, none] rfl ?_
    walk_at "rv go"
    refine ⟨x, .int 0, y, _, rfl, R, rk, X, od, .int 0 (by decide), fun _ r H6 e6 hr => ?_, fun c => (by rw [ix] at c; cases c), fun c => (by rw [ix] at c; cases c)⟩
    walk_at "rv go"
    refine (od.same e6).rp R ?_
    walk_at "rv go"
    refine ⟨szl (by show 2 ≤ 100000; decide), fun r2 nr2 => ?_⟩
    have e7 := same_new (o := .lst [.str y, .bl true]) (Same.refl H6) nr2
    refine neD_same (dp_same e7 _ _ (dp_said hr)) (dp_said upd_same) (sh_l1 od.ok) ?_
    have e8 := e6.trans e7
    generalize upd H6 r2 (.lst [.str y, .bl true]) = H7 at e8 ⊢
    walk_at "rv go"
    refine ⟨.int 1, x, _, y, rfl, R, rk, X, .int 1 (by decide), od.same e8, fun c => (by cases c), fun _ _ r3 H8 e9 hr3 => ?_, fun _ c => (by rw [ix] at c; cases c)⟩
    walk_at "rv go"
    refine ((od.same e8).same e9).rp R ?_
    walk_at "rv go"
    refine ⟨szl (by show 2 ≤ 100000; decide), fun r4 nr4 => ?_⟩
    have e10 := same_new (o := .lst [.str y, .bl true]) (Same.refl H8) nr4
    refine neD_same (dp_same e10 _ _ (dp_said hr3)) (dp_said upd_same) (sh_l1 od.ok) ?_
    have e11 := (e8.trans e9).trans e10
    generalize upd H8 r4 (.lst [.str y, .bl true]) = H9 at e11 ⊢
    walk_at "rv go"
    exact ⟨e5.trans e11, _, rfl⟩
  rintro σ' H5 ⟨e5, o1, rfl⟩
  have e05 := e4.trans e5
  refine w_nx ?_
  refine w_seq ?_
  walk_at "rv go"
  refine ⟨.int 1, .int 0, _, _, rfl, R, rk, X, .int 1 (by decide), .int 0 (by decide), fun c => (by cases c), fun _ _ r H6 e6 hr => ?_, fun _ _ c => absurd rfl c⟩
  rw [show (PyData.int 0).shown = ("0" : Str) by decide +kernel] at hr
  walk_at "rv go"
  refine ⟨szl (by show 2 ≤ 100000; decide), fun r2 nr2 => ?_⟩
  have e7 := same_new (o := .lst [.str "0", .bl true]) (Same.refl H6) nr2
  refine neD_same (dp_same e7 _ _ (dp_said hr)) (dp_said upd_same) (sh_l1 (by decide +kernel)) ?_
  have e8 := (e05.trans e6).trans e7
  generalize upd H6 r2 (.lst [.str "0", .bl true]) = H7 at e8 ⊢
  walk_at "rv go"
  refine ⟨.int 0, .int (-1), _, _, rfl, R, rk, X, .int 0 (by decide), .int (-1) (by decide), fun c => (by cases c), fun _ c => (by rcases c with c | c <;> cases c), fun _ _ _ H8 e9 => ?_⟩
  walk_at "rv go"
  refine w_neR rfl rfl ?_
  walk_at "rv go"
  refine w_seq ?_
  walk_at "rv go"
  refine w_make ?_
  walk_at "rv go"
  refine mk_ratX (us := [.int 0, .int (-5)]) (dvs := []) rfl R X.ox X.no (by decide) (sz8 (by decide)) fun x2 H9 e10 hx2 => ?_
  rw [show zt 0 (-5) = 0 by decide, show zb 0 (-5) = 1 by decide] at hx2
  walk_at "rv go"
  refine (odd_small hx2 (by decide) (by decide)).rp R ?_
  walk_at "rv go"
  refine w_neR rfl (by rw [show rtext 0 1 = ("Ratio(0, 1)" : Str) by decide +kernel]) ?_
  walk_at "rv go"
  have e11 := (e8.trans e9).trans e10
  refine w_seq ?_
  refine RvM.w_forI ?_
  walk_at "rv go"
  refine w_lenL (e11.seq hS) ?_
  walk_at "rv go"
  rw [List.length_map]
  refine ⟨20, _, rfl, ?_⟩
  walk_at "rv go"
  refine ⟨1, _, rfl, ?_⟩
  walk_at "rv go"
  obtain ⟨j, hj, j20⟩ : ∃ j : Int, j = (if (if (ns.length : Int) < 20 then (ns.length : Int) else 20) > 1 then (if (ns.length : Int) < 20 then (ns.length : Int) else 20) else 1) ∧ 1 ≤ j ∧ j ≤ 20 := ⟨_, rfl, by split <;> split <;> omega⟩
  rw [← hj]
  refine ⟨j, rfl, by omega, by omega, ?_⟩
  refine RvM.w_forRn (fun _ σ' H' => Same H H' ∧ ∃ o2 o3 o4 o5 o6 o7 o8 o9, σ' = [some (.ref a0), o1, o2, o3, o4, o5, o6, o7, o8, o9]) ⟨e11, _, _, _, _, _, _, _, _, rfl⟩ ?_ ?_
  · rintro i σ' K1 hi ⟨e1, o2, o3, o4, o5, o6, o7, o8, o9, rfl⟩
    walk_at "rv go"
    refine ⟨a0, ns, i, rfl, e1.seq hS, hl63, by omega, fun p K2 np e2 P2 => ?_⟩
    walk_at "rv go"
    refine ⟨p, rfl, P2, fun t K3 ht b3 P3 => ?_⟩
    walk_at "rv go"
    refine ⟨p, rfl, P3, fun b K4 hb b4 P4 => ?_⟩
    walk_at "rv go"
    refine ⟨_, _, rfl, ?_⟩
    walk_at "rv go"
    refine RvM.take_call P4 (by decide) (by decide) fun r K5 r0 r1 b5 P5 => ?_
    walk_at "rv go"
    obtain ⟨f, hf⟩ : ∃ f : Int, f = 1 + r := ⟨_, rfl⟩
    rw [← hf]
    have hf60 : f.natAbs ≤ 60 := by omega
    have e6 : Same H K5 := e1.trans (RvM.same_but e2 np ((b3.trans b4).trans b5))
    clear e2 b3 b4 b5 P2 P3 P4 P5
    refine ⟨szl (by show 2 ≤ 100000; decide), fun s1 ns1 => ?_⟩
    have c1 := same_new (o := .tup [.int t, .int b]) (Same.refl K5) ns1
    have u1 : (upd K5 s1 (.tup [.int t, .int b])) s1 = some (.tup [.int t, .int b]) := upd_same
    generalize upd K5 s1 (.tup [.int t, .int b]) = J1 at c1 u1 ⊢
    walk_at "rv go"
    refine ⟨szl (by show 2 ≤ 100000; decide), fun s2 ns2 => ?_⟩
    have c2 := same_new (o := .tup [.int f, .int t]) (Same.refl J1) ns2
    have u2 : (upd J1 s2 (.tup [.int f, .int t])) s2 = some (.tup [.int f, .int t]) := upd_same
    generalize upd J1 s2 (.tup [.int f, .int t]) = J2 at c2 u2 ⊢
    walk_at "rv go"
    refine ⟨szl (by show 2 ≤ 100000; decide), fun s3 ns3 => ?_⟩
    have c3 := same_new (o := .tup [.int t, .int 1]) (Same.refl J2) ns3
    have u3 : (upd J2 s3 (.tup [.int t, .int 1])) s3 = some (.tup [.int t, .int 1]) := upd_same
    generalize upd J2 s3 (.tup [.int t, .int 1]) = J3 at c3 u3 ⊢
    walk_at "rv go"
    refine ⟨szl (by show 3 ≤ 100000; decide), fun s4 ns4 => ?_⟩
    have c4 := same_new (o := .lst [.ref s1, .ref s2, .ref s3]) (Same.refl J3) ns4
    have u4 : (upd J3 s4 (.lst [.ref s1, .ref s2, .ref s3])) s4 = some (.lst [.ref s1, .ref s2, .ref s3]) := upd_same
    generalize upd J3 s4 (.lst [.ref s1, .ref s2, .ref s3]) = J4 at c4 u4 ⊢
    walk_at "rv go"
    refine st_is [some (.ref a0), o1, some (.int (i : Int)), some (.ref p), some (.int t), some (.int b), some (.int f), some (.ref s4), o8, o9] rfl ?_
    refine RvM.w_forLn ?_
    walk_at "rv go"
    have st : Sz 200 t := Nat.lt_of_le_of_lt ht (by decide)
    have sb : Sz 200 b := Nat.lt_of_le_of_lt hb (by decide)
    have sf : Sz 200 f := Nat.lt_of_le_of_lt hf60 (by decide)
    refine w_I (mulw st sf (by decide) (by decide) (by decide)) ?_
    walk_at "rv go"
    refine w_I (mulw sb sf (by decide) (by decide) (by decide)) ?_
    walk_at "rv go"
    refine ⟨szl (by show 2 ≤ 100000; decide), fun s5 ns5 => ?_⟩
    have c5 := same_new (o := .tup [.int (t * f), .int (b * f)]) (Same.refl J4) ns5
    have u5 : (upd J4 s5 (.tup [.int (t * f), .int (b * f)])) s5 = some (.tup [.int (t * f), .int (b * f)]) := upd_same
    generalize upd J4 s5 (.tup [.int (t * f), .int (b * f)]) = J5 at c5 u5 ⊢
    walk_at "rv go"
    refine ⟨szl (by show 1 ≤ 100000; decide), fun s6 ns6 => ?_⟩
    have c6 := same_new (o := .lst [.ref s5]) (Same.refl J5) ns6
    have u6 : (upd J5 s6 (.lst [.ref s5])) s6 = some (.lst [.ref s5]) := upd_same
    generalize upd J5 s6 (.lst [.ref s5]) = J6 at c6 u6 ⊢
    refine ⟨s4, s6, _, _, rfl, rfl, c6 _ _ (c5 _ _ u4), u6, szl (by show 4 ≤ 100000; decide), fun s7 ns7 => ⟨s7, rfl, ?_⟩⟩
    have c7 := same_new (o := .lst ([.ref s1, .ref s2, .ref s3] ++ [.ref s5])) (Same.refl J6) ns7
    have u7 : (upd J6 s7 (.lst ([.ref s1, .ref s2, .ref s3] ++ [.ref s5]))) s7 = some (.lst ([.ref s1, .ref s2, .ref s3] ++ [.ref s5])) := upd_same
    generalize upd J6 s7 (.lst ([.ref s1, .ref s2, .ref s3] ++ [.ref s5])) = J7 at c7 u7 ⊢
    have c47 := ((c4.trans c5).trans c6).trans c7
    have PP := prs4 (c47 _ _ (c3 _ _ (c2 _ _ u1))) (c47 _ _ (c3 _ _ u2)) (c47 _ _ u3) (c7 _ _ (c6 _ _ u5)) ht hb hf60
    have e7 := (((e6.trans c1).trans c2).trans c3).trans c47
    refine RvM.w_forLa (sq_lst u7) (fun _ σ' H' => Same J7 H' ∧ ∃ o8 o9, σ' = [some (.ref a0), o1, some (.int (i : Int)), some (.ref p), some (.int t), some (.int b), some (.int f), some (.ref s4), o8, o9]) ⟨Same.refl J7, _, _, rfl⟩ (fun _ σ' H' _ ⟨e, _⟩ => sq_lst (e _ _ u7)) ?_ ?_
    · rintro m x σ' K8 hx ⟨e8, o8, o9, rfl⟩
      obtain ⟨s, n, d, rfl, hs, hn, hd⟩ := PP m x hx
      refine ⟨s, _, rfl, sq_tup (e8 _ _ hs), rfl, _, _, rfl, ?_⟩
      refine ⟨_, _, rfl, rfl, ?_⟩
      refine st_is [some (.ref a0), o1, some (.int (i : Int)), some (.ref p), some (.int t), some (.int b), some (.int f), some (.ref s4), some (.int n), some (.int d)] rfl ?_
      walk_at "rv go"
      by_cases z : d = 0
      · rw [decide_eq_true z]
        walk_at "rv go"
        exact ⟨e8, _, _, rfl⟩
      · rw [decide_eq_false z]
        walk_at "rv go"
        refine ⟨n, d, rfl, R, X.ox, X.no, z, hn, hd, fun K9 e9 => ?_⟩
        walk_at "rv go"
        exact ⟨e8.trans e9, _, _, rfl⟩
    rintro σ' K8 ⟨e8, o8, o9, rfl⟩
    exact ⟨e7.trans e8, _, _, _, _, _, _, _, _, rfl⟩
  · rintro σ' K1 ⟨e1, o2, o3, o4, o5, o6, o7, o8, o9, rfl⟩
    walk_at "rv go"
    refine w_makek ?_
    walk_at "rv go"
    refine ⟨rfl, rfl, ?_⟩
    refine mk_ratX (us := [.int 6, .int 4]) (dvs := []) rfl R X.ox X.no (by decide) (sz8 (by decide)) fun x3 K2 e2 hx3 => ?_
    rw [show zt 6 4 = 3 by decide, show zb 6 4 = 2 by decide] at hx3
    walk_at "rv go"
    refine (odd_small hx3 (by decide) (by decide)).rp R ?_
    walk_at "rv go"
    refine w_eqR rfl (by rw [show rtext 3 2 = ("Ratio(3, 2)" : Str) by decide +kernel]) ?_
    walk_at "rv go"
    refine w_make ?_
    walk_at "rv go"
    refine mk_ratX (us := [.int 7]) (dvs := [.int 1]) rfl R X.ox X.no (by decide) (sz8 (by decide)) fun x4 K3 e3 hx4 => ?_
    rw [show zt 7 1 = 7 by decide, show zb 7 1 = 1 by decide] at hx4
    walk_at "rv go"
    refine (odd_small hx4 (by decide) (by decide)).rp R ?_
    walk_at "rv go"
    refine w_eqR rfl (by rw [show rtext 7 1 = ("Ratio(7, 1)" : Str) by decide +kernel]) ?_
    exact k _
end Rv
namespace Rv
open PySem PySem.Spec PyProof.Rows L2
theorem sc_InvalidNumber___init__ : FnScope ["self", "value"] ["self", "value"] (defScope s_InvalidNumber___init__) := ⟨rfl, rfl, rfl, by decide +kernel, rfl, by decide +kernel, by decide +kernel⟩
theorem d_InvalidNumber___init__ {P : Program} {w : World} {K : PySem.W.Frag} {mg : Str → Option Value} {base : Heap} {C_InvalidNumber : Addr} {CX : CXT} {f : Addr} {cdv : Value} {A : Around} {outer : List Env} {s : Shared} {H : Hp} {E : XK} (bg_RainError : BaseG K C_RainError "ValueError.__init__") (g_RainError : mg "RainError" = some (.ref C_RainError))
    (hr : Room 0 (A.deeper (envOfC "InvalidNumber.__init__" (defScope s_InvalidNumber___init__) s.heap.objs.size f cdv))) :
    PSs (cxOf CX P w K mg base ["self", "value"] "InvalidNumber.__init__" (defScope s_InvalidNumber___init__) f cdv A outer s H E) (defBody s_InvalidNumber___init__) (t_InvalidNumber___init__ K C_InvalidNumber) :=
  (pss_cons (ps_expr (pe_ownbaseG bg_RainError (by rfl) g_RainError (pa_cons (pv 0) (pa_cons pe_str pa_nil))))
    (pss_one (ps_fst (pv 0) (pv 1))))
theorem ok_InvalidNumber___init__ {P : Program} {w : World} {K : PySem.W.Frag} {mg : Str → Option Value} {base : Heap} {C_InvalidNumber : Addr} {f : Addr} {fd : FuncData} (F : FunD K "__init__" "InvalidNumber.__init__" (defArgs s_InvalidNumber___init__) (defBody s_InvalidNumber___init__) (defScope s_InvalidNumber___init__) [] [] f fd) (bg_RainError : BaseG K C_RainError "ValueError.__init__") (g_RainError : mg "RainError" = some (.ref C_RainError)) : FnOk P w K mg base CX0 1 f fd ["self", "value"] (spExc K C_InvalidNumber "ValueError" "ValueError.__new__" "ValueError.__init__" bm_ValueError "value") :=
  F.ok sc_InvalidNumber___init__ (fun vs H Q E h => by first | (obtain ⟨_, rfl, _⟩ := h; rfl) | (obtain ⟨_, _, rfl, _⟩ := h; rfl) | (obtain ⟨_, _, _, rfl, _⟩ := h; rfl) | (obtain ⟨_, _, _, _, rfl, _⟩ := h; rfl) | (obtain ⟨_, _, _, _, _, rfl, _⟩ := h; rfl) | (obtain ⟨_, _, _, _, _, _, rfl, _⟩ := h; rfl) | (obtain ⟨_, _, _, _, _, _, _, rfl, _⟩ := h; rfl) | (obtain ⟨_, _, _, _, _, _, _, _, rfl, _⟩ := h; rfl) | (obtain ⟨_, _, _, _, _, _, _, _, _, rfl, _⟩ := h; rfl) | (obtain ⟨_, _, _, _, _, _, _, _, _, _, rfl, _⟩ := h; rfl) | (obtain ⟨_, _, _, _, _, _, _, _, _, _, _, rfl, _⟩ := h; rfl) | (obtain ⟨_, _, _, _, _, _, _, _, _, _, _, _, rfl, _⟩ := h; rfl) | (obtain ⟨_, _, _, _, _, _, _, _, _, _, _, _, _, rfl, _⟩ := h; rfl) | (obtain ⟨_, _, _, _, _, _, _, _, _, _, _, _, _, _, rfl, _⟩ := h; rfl) | (obtain ⟨_, _, _, _, _, _, _, _, _, _, _, _, _, _, _, rfl, _⟩ := h; rfl) | (obtain ⟨_, _, _, _, _, _, _, _, _, _, _, _, _, _, _, _, rfl, _⟩ := h; rfl) | (obtain ⟨_, _, _, _, _, _, _, _, _, _, _, _, _, _, _, _, _, rfl, _⟩ := h; rfl) | (obtain ⟨_, _, _, _, _, _, _, _, _, _, _, _, _, _, _, _, _, _, rfl, _⟩ := h; rfl) | (obtain ⟨_, _, _, _, _, _, _, _, _, _, _, _, _, _, _, _, _, _, _, rfl, _⟩ := h; rfl) | (obtain ⟨_, _, _, _, _, _, _, _, _, _, _, _, _, _, _, _, _, _, _, _, rfl, _⟩ := h; rfl) | (obtain ⟨_, _, _, _, _, _, _, _, _, _, _, _, _, _, _, _, _, _, _, _, _, rfl, _⟩ := h; rfl) | (obtain ⟨_, _, _, _, _, _, _, _, _, _, _, _, _, _, _, _, _, _, _, _, _, _, rfl, _⟩ := h; rfl) | (obtain ⟨_, _, _, _, _, _, _, _, _, _, _, _, _, _, _, _, _, _, _, _, _, _, _, rfl, _⟩ := h; rfl) | (obtain ⟨_, _, _, _, _, _, _, _, _, _, _, _, _, _, _, _, _, _, _, _, _, _, _, _, rfl, _⟩ := h; rfl) | (obtain ⟨_, _, _, _, _, _, _, _, _, _, _, _, _, _, _, _, _, _, _, _, _, _, _, _, _, rfl, _⟩ := h; rfl)) (fun cdv A outer s H vs Q E hr h => ⟨_, d_InvalidNumber___init__ bg_RainError g_RainError hr, p_numI h⟩)
theorem sc_is_whole : FnScope ["value"] ["value"] (defScope s_is_whole) := ⟨rfl, rfl, rfl, by decide +kernel, rfl, by decide +kernel, by decide +kernel⟩
theorem d_is_whole {P : Program} {w : World} {K : PySem.W.Frag} {mg : Str → Option Value} {base : Heap} {CX : CXT} {f : Addr} {cdv : Value} {A : Around} {outer : List Env} {s : Shared} {H : Hp} {E : XK} (m_int : mg "int" = none) (m_isinstance : mg "isinstance" = none) (m_bool : mg "bool" = none)
    (hr : Room 0 (A.deeper (envOfC "is_whole" (defScope s_is_whole) s.heap.objs.size f cdv))) :
    PSs (cxOf CX P w K mg base ["value"] "is_whole" (defScope s_is_whole) f cdv A outer s H E) (defBody s_is_whole) (t_is_whole K) :=
  (pss_one (ps_ret (pe_and (pe_callB call_isi (by rfl) m_isinstance (by decide +kernel) (pa_cons (pv 0) (pa_cons (pe_bltn (by rfl) m_int (by decide +kernel) rfl) pa_nil))) (pe_one (pe_not (pe_callB call_isi (by rfl) m_isinstance (by decide +kernel) (pa_cons (pv 0) (pa_cons (pe_bltn (by rfl) m_bool (by decide +kernel) rfl) pa_nil))))))))
theorem ok_is_whole {P : Program} {w : World} {K : PySem.W.Frag} {mg : Str → Option Value} {base : Heap} {f : Addr} {fd : FuncData} (F : FunD K "is_whole" "is_whole" (defArgs s_is_whole) (defBody s_is_whole) (defScope s_is_whole) [] [] f fd) (m_int : mg "int" = none) (m_isinstance : mg "isinstance" = none) (m_bool : mg "bool" = none) : FnOk P w K mg base CX0 1 f fd ["value"] (spWhole K) :=
  F.ok sc_is_whole (fun vs H Q E h => by first | (obtain ⟨_, rfl, _⟩ := h; rfl) | (obtain ⟨_, _, rfl, _⟩ := h; rfl) | (obtain ⟨_, _, _, rfl, _⟩ := h; rfl) | (obtain ⟨_, _, _, _, rfl, _⟩ := h; rfl) | (obtain ⟨_, _, _, _, _, rfl, _⟩ := h; rfl) | (obtain ⟨_, _, _, _, _, _, rfl, _⟩ := h; rfl) | (obtain ⟨_, _, _, _, _, _, _, rfl, _⟩ := h; rfl) | (obtain ⟨_, _, _, _, _, _, _, _, rfl, _⟩ := h; rfl) | (obtain ⟨_, _, _, _, _, _, _, _, _, rfl, _⟩ := h; rfl) | (obtain ⟨_, _, _, _, _, _, _, _, _, _, rfl, _⟩ := h; rfl) | (obtain ⟨_, _, _, _, _, _, _, _, _, _, _, rfl, _⟩ := h; rfl) | (obtain ⟨_, _, _, _, _, _, _, _, _, _, _, _, rfl, _⟩ := h; rfl) | (obtain ⟨_, _, _, _, _, _, _, _, _, _, _, _, _, rfl, _⟩ := h; rfl) | (obtain ⟨_, _, _, _, _, _, _, _, _, _, _, _, _, _, rfl, _⟩ := h; rfl) | (obtain ⟨_, _, _, _, _, _, _, _, _, _, _, _, _, _, _, rfl, _⟩ := h; rfl) | (obtain ⟨_, _, _, _, _, _, _, _, _, _, _, _, _, _, _, _, rfl, _⟩ := h; rfl) | (obtain ⟨_, _, _, _, _, _, _, _, _, _, _, _, _, _, _, _, _, rfl, _⟩ := h; rfl) | (obtain ⟨_, _, _, _, _, _, _, _, _, _, _, _, _, _, _, _, _, _, rfl, _⟩ := h; rfl) | (obtain ⟨_, _, _, _, _, _, _, _, _, _, _, _, _, _, _, _, _, _, _, rfl, _⟩ := h; rfl) | (obtain ⟨_, _, _, _, _, _, _, _, _, _, _, _, _, _, _, _, _, _, _, _, rfl, _⟩ := h; rfl) | (obtain ⟨_, _, _, _, _, _, _, _, _, _, _, _, _, _, _, _, _, _, _, _, _, rfl, _⟩ := h; rfl) | (obtain ⟨_, _, _, _, _, _, _, _, _, _, _, _, _, _, _, _, _, _, _, _, _, _, rfl, _⟩ := h; rfl) | (obtain ⟨_, _, _, _, _, _, _, _, _, _, _, _, _, _, _, _, _, _, _, _, _, _, _, rfl, _⟩ := h; rfl) | (obtain ⟨_, _, _, _, _, _, _, _, _, _, _, _, _, _, _, _, _, _, _, _, _, _, _, _, rfl, _⟩ := h; rfl) | (obtain ⟨_, _, _, _, _, _, _, _, _, _, _, _, _, _, _, _, _, _, _, _, _, _, _, _, _, rfl, _⟩ := h; rfl)) (fun cdv A outer s H vs Q E hr h => ⟨_, d_is_whole m_int m_isinstance m_bool hr, p_whole h⟩)
theorem sc_common_divisor : FnScope ["first", "second"] ["first", "second"] (defScope s_common_divisor) := ⟨rfl, rfl, rfl, by decide +kernel, rfl, by decide +kernel, by decide +kernel⟩
theorem d_common_divisor {P : Program} {w : World} {K : PySem.W.Frag} {mg : Str → Option Value} {base : Heap} {CX : CXT} {f : Addr} {cdv : Value} {A : Around} {outer : List Env} {s : Shared} {H : Hp} {E : XK} 
    (hr : Room 0 (A.deeper (envOfC "common_divisor" (defScope s_common_divisor) s.heap.objs.size f cdv))) :
    PSs (cxOf CX P w K mg base ["first", "second"] "common_divisor" (defScope s_common_divisor) f cdv A outer s H E) (defBody s_common_divisor) (t_common_divisor K) :=
  (pss_cons (ps_while (passes_of rfl) (pt_cmpR op_ne (pv 1) pe_int (nomark _)) (pss_one (ps_par (by rfl) sc_common_divisor.nd rfl rfl (by decide) rfl rfl (pa_cons (pv 1) (pa_cons (pe_op op_mod (pv 0) (pv 1)) pa_nil)) (by rfl))))
    (pss_one (ps_ret (pv 0))))
theorem ok_common_divisor {P : Program} {w : World} {K : PySem.W.Frag} {mg : Str → Option Value} {base : Heap} {f : Addr} {fd : FuncData} (F : FunD K "common_divisor" "common_divisor" (defArgs s_common_divisor) (defBody s_common_divisor) (defScope s_common_divisor) [] [] f fd)  : FnOk P w K mg base CX0 1 f fd ["first", "second"] (spGcd K) :=
  F.ok sc_common_divisor (fun vs H Q E h => by first | (obtain ⟨_, rfl, _⟩ := h; rfl) | (obtain ⟨_, _, rfl, _⟩ := h; rfl) | (obtain ⟨_, _, _, rfl, _⟩ := h; rfl) | (obtain ⟨_, _, _, _, rfl, _⟩ := h; rfl) | (obtain ⟨_, _, _, _, _, rfl, _⟩ := h; rfl) | (obtain ⟨_, _, _, _, _, _, rfl, _⟩ := h; rfl) | (obtain ⟨_, _, _, _, _, _, _, rfl, _⟩ := h; rfl) | (obtain ⟨_, _, _, _, _, _, _, _, rfl, _⟩ := h; rfl) | (obtain ⟨_, _, _, _, _, _, _, _, _, rfl, _⟩ := h; rfl) | (obtain ⟨_, _, _, _, _, _, _, _, _, _, rfl, _⟩ := h; rfl) | (obtain ⟨_, _, _, _, _, _, _, _, _, _, _, rfl, _⟩ := h; rfl) | (obtain ⟨_, _, _, _, _, _, _, _, _, _, _, _, rfl, _⟩ := h; rfl) | (obtain ⟨_, _, _, _, _, _, _, _, _, _, _, _, _, rfl, _⟩ := h; rfl) | (obtain ⟨_, _, _, _, _, _, _, _, _, _, _, _, _, _, rfl, _⟩ := h; rfl) | (obtain ⟨_, _, _, _, _, _, _, _, _, _, _, _, _, _, _, rfl, _⟩ := h; rfl) | (obtain ⟨_, _, _, _, _, _, _, _, _, _, _, _, _, _, _, _, rfl, _⟩ := h; rfl) | (obtain ⟨_, _, _, _, _, _, _, _, _, _, _, _, _, _, _, _, _, rfl, _⟩ := h; rfl) | (obtain ⟨_, _, _, _, _, _, _, _, _, _, _, _, _, _, _, _, _, _, rfl, _⟩ := h; rfl) | (obtain ⟨_, _, _, _, _, _, _, _, _, _, _, _, _, _, _, _, _, _, _, rfl, _⟩ := h; rfl) | (obtain ⟨_, _, _, _, _, _, _, _, _, _, _, _, _, _, _, _, _, _, _, _, rfl, _⟩ := h; rfl) | (obtain ⟨_, _, _, _, _, _, _, _, _, _, _, _, _, _, _, _, _, _, _, _, _, rfl, _⟩ := h; rfl) | (obtain ⟨_, _, _, _, _, _, _, _, _, _, _, _, _, _, _, _, _, _, _, _, _, _, rfl, _⟩ := h; rfl) | (obtain ⟨_, _, _, _, _, _, _, _, _, _, _, _, _, _, _, _, _, _, _, _, _, _, _, rfl, _⟩ := h; rfl) | (obtain ⟨_, _, _, _, _, _, _, _, _, _, _, _, _, _, _, _, _, _, _, _, _, _, _, _, rfl, _⟩ := h; rfl) | (obtain ⟨_, _, _, _, _, _, _, _, _, _, _, _, _, _, _, _, _, _, _, _, _, _, _, _, _, rfl, _⟩ := h; rfl)) (fun cdv A outer s H vs Q E hr h => ⟨_, d_common_divisor  hr, p_gcd h⟩)
theorem sc_Ratio___init__ : FnScope ["self", "numerator", "denominator", "divisor"] ["self", "numerator", "denominator"] (defScope s_Ratio___init__) := ⟨rfl, rfl, rfl, by decide +kernel, rfl, by decide +kernel, by decide +kernel⟩
theorem d_Ratio___init__ {P : Program} {w : World} {K : PySem.W.Frag} {mg : Str → Option Value} {base : Heap} {C_Ratio : Addr} {C_InvalidNumber : Addr} {f : Addr} {cdv : Value} {A : Around} {outer : List Env} {s : Shared} {H : Hp} {E : XK} (c_is_whole : Cal P w K mg base CX0 1 "is_whole" ["value"] (spWhole K)) (cx_InvalidNumber : CalX P w K mg base CX0 1 "InvalidNumber" C_InvalidNumber ["self", "value"] (spExc K C_InvalidNumber "ValueError" "ValueError.__new__" "ValueError.__init__" bm_ValueError "value") [] "ValueError" "ValueError.__new__" "ValueError.__init__" bm_ValueError) (m_abs : mg "abs" = none) (c_common_divisor : Cal P w K mg base CX0 1 "common_divisor" ["first", "second"] (spGcd K))
    (hr : Room 2 (A.deeper (envOfC "Ratio.__init__" (defScope s_Ratio___init__) s.heap.objs.size f cdv))) :
    PSs (cxOf (L2.CX P w) P w K mg base ["self", "numerator", "denominator", "divisor"] "Ratio.__init__" (defScope s_Ratio___init__) f cdv A outer s H E) (defBody s_Ratio___init__) (t_Ratio___init__X K C_Ratio C_InvalidNumber E) :=
  (pss_cons (ps_if (pt_not (pt_val (pe_cal c_is_whole (hr.mono (by decide)) rfl pass0 (pa_cons (pv 1) pa_nil)))) (pss_one (ps_raiseE (pmk_cal cx_InvalidNumber (hr.mono (by decide)) pass0 (by rfl) (pa_cons (pv 1) pa_nil)) (takes_of rfl rfl rfl rfl))) pss_nil)
    (pss_cons (ps_if (PW.pt (pw_or (pt_not (pt_val (pe_cal c_is_whole (hr.mono (by decide)) rfl pass0 (pa_cons (pv 2) pa_nil)))) (pw_or1 (pt_cmpR op_eq (pv 2) pe_int (nomark _))))) (pss_one (ps_raiseE (pmk_cal cx_InvalidNumber (hr.mono (by decide)) pass0 (by rfl) (pa_cons (pv 2) pa_nil)) (takes_of rfl rfl rfl rfl))) pss_nil)
    (pss_cons (ps_set (i := 3) sc_Ratio___init__.nd rfl (by first | exact Or.inl rfl | exact Or.inr rfl) (pe_cal c_common_divisor (hr.mono (by decide)) rfl pass0 (pa_cons (pe_callB call_abs (by rfl) m_abs (by decide +kernel) (pa_cons (pv 1) pa_nil)) (pa_cons (pe_callB call_abs (by rfl) m_abs (by decide +kernel) (pa_cons (pv 2) pa_nil)) pa_nil))))
    (pss_cons (ps_if (pt_cmpR op_lt (pv 2) pe_int (nomark _)) (pss_one (ps_set (i := 3) sc_Ratio___init__.nd rfl (by first | exact Or.inl rfl | exact Or.inr rfl) (pe_un un_neg (pv 3)))) pss_nil)
    (pss_cons (ps_fld (pv 0) (pe_op op_fdivZ (pv 1) (pv 3)) rfl)
    (pss_one (ps_fld (pv 0) (pe_op op_fdivZ (pv 2) (pv 3)) rfl)))))))
theorem ok_Ratio___init__ {P : Program} {w : World} {K : PySem.W.Frag} {mg : Str → Option Value} {base : Heap} {C_Ratio : Addr} {C_InvalidNumber : Addr} {f : Addr} {fd : FuncData} (F : FunD K "__init__" "Ratio.__init__" (defArgs s_Ratio___init__) (defBody s_Ratio___init__) (defScope s_Ratio___init__) [.int 1] [] f fd) (c_is_whole : Cal P w K mg base CX0 1 "is_whole" ["value"] (spWhole K)) (cx_InvalidNumber : CalX P w K mg base CX0 1 "InvalidNumber" C_InvalidNumber ["self", "value"] (spExc K C_InvalidNumber "ValueError" "ValueError.__new__" "ValueError.__init__" bm_ValueError "value") [] "ValueError" "ValueError.__new__" "ValueError.__init__" bm_ValueError) (m_abs : mg "abs" = none) (c_common_divisor : Cal P w K mg base CX0 1 "common_divisor" ["first", "second"] (spGcd K)) : FnOk P w K mg base (L2.CX P w) 3 f fd ["self", "numerator", "denominator"] (spRInitX K C_Ratio C_InvalidNumber) :=
  F.ok sc_Ratio___init__ (fun vs H Q E h => by first | (obtain ⟨_, rfl, _⟩ := h; rfl) | (obtain ⟨_, _, rfl, _⟩ := h; rfl) | (obtain ⟨_, _, _, rfl, _⟩ := h; rfl) | (obtain ⟨_, _, _, _, rfl, _⟩ := h; rfl) | (obtain ⟨_, _, _, _, _, rfl, _⟩ := h; rfl) | (obtain ⟨_, _, _, _, _, _, rfl, _⟩ := h; rfl) | (obtain ⟨_, _, _, _, _, _, _, rfl, _⟩ := h; rfl) | (obtain ⟨_, _, _, _, _, _, _, _, rfl, _⟩ := h; rfl) | (obtain ⟨_, _, _, _, _, _, _, _, _, rfl, _⟩ := h; rfl) | (obtain ⟨_, _, _, _, _, _, _, _, _, _, rfl, _⟩ := h; rfl) | (obtain ⟨_, _, _, _, _, _, _, _, _, _, _, rfl, _⟩ := h; rfl) | (obtain ⟨_, _, _, _, _, _, _, _, _, _, _, _, rfl, _⟩ := h; rfl) | (obtain ⟨_, _, _, _, _, _, _, _, _, _, _, _, _, rfl, _⟩ := h; rfl) | (obtain ⟨_, _, _, _, _, _, _, _, _, _, _, _, _, _, rfl, _⟩ := h; rfl) | (obtain ⟨_, _, _, _, _, _, _, _, _, _, _, _, _, _, _, rfl, _⟩ := h; rfl) | (obtain ⟨_, _, _, _, _, _, _, _, _, _, _, _, _, _, _, _, rfl, _⟩ := h; rfl) | (obtain ⟨_, _, _, _, _, _, _, _, _, _, _, _, _, _, _, _, _, rfl, _⟩ := h; rfl) | (obtain ⟨_, _, _, _, _, _, _, _, _, _, _, _, _, _, _, _, _, _, rfl, _⟩ := h; rfl) | (obtain ⟨_, _, _, _, _, _, _, _, _, _, _, _, _, _, _, _, _, _, _, rfl, _⟩ := h; rfl) | (obtain ⟨_, _, _, _, _, _, _, _, _, _, _, _, _, _, _, _, _, _, _, _, rfl, _⟩ := h; rfl) | (obtain ⟨_, _, _, _, _, _, _, _, _, _, _, _, _, _, _, _, _, _, _, _, _, rfl, _⟩ := h; rfl) | (obtain ⟨_, _, _, _, _, _, _, _, _, _, _, _, _, _, _, _, _, _, _, _, _, _, rfl, _⟩ := h; rfl) | (obtain ⟨_, _, _, _, _, _, _, _, _, _, _, _, _, _, _, _, _, _, _, _, _, _, _, rfl, _⟩ := h; rfl) | (obtain ⟨_, _, _, _, _, _, _, _, _, _, _, _, _, _, _, _, _, _, _, _, _, _, _, _, rfl, _⟩ := h; rfl) | (obtain ⟨_, _, _, _, _, _, _, _, _, _, _, _, _, _, _, _, _, _, _, _, _, _, _, _, _, rfl, _⟩ := h; rfl)) (fun cdv A outer s H vs Q E hr h => ⟨_, d_Ratio___init__ c_is_whole cx_InvalidNumber m_abs c_common_divisor hr, p_rinitX h⟩)
theorem sc_Ratio_floor : FnScope ["self"] ["self"] (defScope s_Ratio_floor) := ⟨rfl, rfl, rfl, by decide +kernel, rfl, by decide +kernel, by decide +kernel⟩
theorem d_Ratio_floor {P : Program} {w : World} {K : PySem.W.Frag} {mg : Str → Option Value} {base : Heap} {C_Ratio : Addr} {CX : CXT} {f : Addr} {cdv : Value} {A : Around} {outer : List Env} {s : Shared} {H : Hp} {E : XK} 
    (hr : Room 0 (A.deeper (envOfC "Ratio.floor" (defScope s_Ratio_floor) s.heap.objs.size f cdv))) :
    PSs (cxOf CX P w K mg base ["self"] "Ratio.floor" (defScope s_Ratio_floor) f cdv A outer s H E) (defBody s_Ratio_floor) (t_Ratio_floor K C_Ratio) :=
  (pss_one (ps_ret (pe_op op_fdivW (pe_fld (pv 0) rfl) (pe_fld (pv 0) rfl))))
theorem ok_Ratio_floor {P : Program} {w : World} {K : PySem.W.Frag} {mg : Str → Option Value} {base : Heap} {C_Ratio : Addr} {f : Addr} {fd : FuncData} (F : FunD K "floor" "Ratio.floor" (defArgs s_Ratio_floor) (defBody s_Ratio_floor) (defScope s_Ratio_floor) [] [] f fd)  : FnOk P w K mg base CX0 1 f fd ["self"] (spFloor K C_Ratio) :=
  F.ok sc_Ratio_floor (fun vs H Q E h => by first | (obtain ⟨_, rfl, _⟩ := h; rfl) | (obtain ⟨_, _, rfl, _⟩ := h; rfl) | (obtain ⟨_, _, _, rfl, _⟩ := h; rfl) | (obtain ⟨_, _, _, _, rfl, _⟩ := h; rfl) | (obtain ⟨_, _, _, _, _, rfl, _⟩ := h; rfl) | (obtain ⟨_, _, _, _, _, _, rfl, _⟩ := h; rfl) | (obtain ⟨_, _, _, _, _, _, _, rfl, _⟩ := h; rfl) | (obtain ⟨_, _, _, _, _, _, _, _, rfl, _⟩ := h; rfl) | (obtain ⟨_, _, _, _, _, _, _, _, _, rfl, _⟩ := h; rfl) | (obtain ⟨_, _, _, _, _, _, _, _, _, _, rfl, _⟩ := h; rfl) | (obtain ⟨_, _, _, _, _, _, _, _, _, _, _, rfl, _⟩ := h; rfl) | (obtain ⟨_, _, _, _, _, _, _, _, _, _, _, _, rfl, _⟩ := h; rfl) | (obtain ⟨_, _, _, _, _, _, _, _, _, _, _, _, _, rfl, _⟩ := h; rfl) | (obtain ⟨_, _, _, _, _, _, _, _, _, _, _, _, _, _, rfl, _⟩ := h; rfl) | (obtain ⟨_, _, _, _, _, _, _, _, _, _, _, _, _, _, _, rfl, _⟩ := h; rfl) | (obtain ⟨_, _, _, _, _, _, _, _, _, _, _, _, _, _, _, _, rfl, _⟩ := h; rfl) | (obtain ⟨_, _, _, _, _, _, _, _, _, _, _, _, _, _, _, _, _, rfl, _⟩ := h; rfl) | (obtain ⟨_, _, _, _, _, _, _, _, _, _, _, _, _, _, _, _, _, _, rfl, _⟩ := h; rfl) | (obtain ⟨_, _, _, _, _, _, _, _, _, _, _, _, _, _, _, _, _, _, _, rfl, _⟩ := h; rfl) | (obtain ⟨_, _, _, _, _, _, _, _, _, _, _, _, _, _, _, _, _, _, _, _, rfl, _⟩ := h; rfl) | (obtain ⟨_, _, _, _, _, _, _, _, _, _, _, _, _, _, _, _, _, _, _, _, _, rfl, _⟩ := h; rfl) | (obtain ⟨_, _, _, _, _, _, _, _, _, _, _, _, _, _, _, _, _, _, _, _, _, _, rfl, _⟩ := h; rfl) | (obtain ⟨_, _, _, _, _, _, _, _, _, _, _, _, _, _, _, _, _, _, _, _, _, _, _, rfl, _⟩ := h; rfl) | (obtain ⟨_, _, _, _, _, _, _, _, _, _, _, _, _, _, _, _, _, _, _, _, _, _, _, _, rfl, _⟩ := h; rfl) | (obtain ⟨_, _, _, _, _, _, _, _, _, _, _, _, _, _, _, _, _, _, _, _, _, _, _, _, _, rfl, _⟩ := h; rfl)) (fun cdv A outer s H vs Q E hr h => ⟨_, d_Ratio_floor  hr, p_floorR h⟩)
theorem sc_Ratio___neg__ : FnScope ["self"] ["self"] (defScope s_Ratio___neg__) := ⟨rfl, rfl, rfl, by decide +kernel, rfl, by decide +kernel, by decide +kernel⟩
theorem d_Ratio___neg__ {P : Program} {w : World} {K : PySem.W.Frag} {mg : Str → Option Value} {base : Heap} {C_Ratio : Addr} {C_InvalidNumber : Addr} {CX : CXT} {f : Addr} {cdv : Value} {A : Around} {outer : List Env} {s : Shared} {H : Hp} {E : XK} (cm2_Ratio : CalM P w K mg base (L2.CX P w) 3 "Ratio" C_Ratio ["self", "numerator", "denominator"] (spRInitX K C_Ratio C_InvalidNumber) [])
    (hr : Room 4 (A.deeper (envOfC "Ratio.__neg__" (defScope s_Ratio___neg__) s.heap.objs.size f cdv))) :
    PSs (cxOf CX P w K mg base ["self"] "Ratio.__neg__" (defScope s_Ratio___neg__) f cdv A outer s H E) (defBody s_Ratio___neg__) (t_Ratio___neg__ K C_Ratio C_InvalidNumber) :=
  (pss_one (ps_ret (pe_calm cm2_Ratio (hr.mono (by decide)) (by rfl) passE0 (pa_cons (pe_un un_neg (pe_fld (pv 0) rfl)) (pa_cons (pe_fld (pv 0) rfl) pa_nil)))))
theorem ok_Ratio___neg__ {P : Program} {w : World} {K : PySem.W.Frag} {mg : Str → Option Value} {base : Heap} {C_Ratio : Addr} {C_InvalidNumber : Addr} {f : Addr} {fd : FuncData} (F : FunD K "__neg__" "Ratio.__neg__" (defArgs s_Ratio___neg__) (defBody s_Ratio___neg__) (defScope s_Ratio___neg__) [] [] f fd) (cm2_Ratio : CalM P w K mg base (L2.CX P w) 3 "Ratio" C_Ratio ["self", "numerator", "denominator"] (spRInitX K C_Ratio C_InvalidNumber) []) : FnOk P w K mg base CX0 5 f fd ["self"] (spNegR K C_Ratio C_InvalidNumber) :=
  F.ok sc_Ratio___neg__ (fun vs H Q E h => by first | (obtain ⟨_, rfl, _⟩ := h; rfl) | (obtain ⟨_, _, rfl, _⟩ := h; rfl) | (obtain ⟨_, _, _, rfl, _⟩ := h; rfl) | (obtain ⟨_, _, _, _, rfl, _⟩ := h; rfl) | (obtain ⟨_, _, _, _, _, rfl, _⟩ := h; rfl) | (obtain ⟨_, _, _, _, _, _, rfl, _⟩ := h; rfl) | (obtain ⟨_, _, _, _, _, _, _, rfl, _⟩ := h; rfl) | (obtain ⟨_, _, _, _, _, _, _, _, rfl, _⟩ := h; rfl) | (obtain ⟨_, _, _, _, _, _, _, _, _, rfl, _⟩ := h; rfl) | (obtain ⟨_, _, _, _, _, _, _, _, _, _, rfl, _⟩ := h; rfl) | (obtain ⟨_, _, _, _, _, _, _, _, _, _, _, rfl, _⟩ := h; rfl) | (obtain ⟨_, _, _, _, _, _, _, _, _, _, _, _, rfl, _⟩ := h; rfl) | (obtain ⟨_, _, _, _, _, _, _, _, _, _, _, _, _, rfl, _⟩ := h; rfl) | (obtain ⟨_, _, _, _, _, _, _, _, _, _, _, _, _, _, rfl, _⟩ := h; rfl) | (obtain ⟨_, _, _, _, _, _, _, _, _, _, _, _, _, _, _, rfl, _⟩ := h; rfl) | (obtain ⟨_, _, _, _, _, _, _, _, _, _, _, _, _, _, _, _, rfl, _⟩ := h; rfl) | (obtain ⟨_, _, _, _, _, _, _, _, _, _, _, _, _, _, _, _, _, rfl, _⟩ := h; rfl) | (obtain ⟨_, _, _, _, _, _, _, _, _, _, _, _, _, _, _, _, _, _, rfl, _⟩ := h; rfl) | (obtain ⟨_, _, _, _, _, _, _, _, _, _, _, _, _, _, _, _, _, _, _, rfl, _⟩ := h; rfl) | (obtain ⟨_, _, _, _, _, _, _, _, _, _, _, _, _, _, _, _, _, _, _, _, rfl, _⟩ := h; rfl) | (obtain ⟨_, _, _, _, _, _, _, _, _, _, _, _, _, _, _, _, _, _, _, _, _, rfl, _⟩ := h; rfl) | (obtain ⟨_, _, _, _, _, _, _, _, _, _, _, _, _, _, _, _, _, _, _, _, _, _, rfl, _⟩ := h; rfl) | (obtain ⟨_, _, _, _, _, _, _, _, _, _, _, _, _, _, _, _, _, _, _, _, _, _, _, rfl, _⟩ := h; rfl) | (obtain ⟨_, _, _, _, _, _, _, _, _, _, _, _, _, _, _, _, _, _, _, _, _, _, _, _, rfl, _⟩ := h; rfl) | (obtain ⟨_, _, _, _, _, _, _, _, _, _, _, _, _, _, _, _, _, _, _, _, _, _, _, _, _, rfl, _⟩ := h; rfl)) (fun cdv A outer s H vs Q E hr h => ⟨_, d_Ratio___neg__ cm2_Ratio hr, p_negR h⟩)
theorem sc_Ratio___abs__ : FnScope ["self"] ["self"] (defScope s_Ratio___abs__) := ⟨rfl, rfl, rfl, by decide +kernel, rfl, by decide +kernel, by decide +kernel⟩
theorem d_Ratio___abs__ {P : Program} {w : World} {K : PySem.W.Frag} {mg : Str → Option Value} {base : Heap} {C_Ratio : Addr} {C_InvalidNumber : Addr} {CX : CXT} {f : Addr} {cdv : Value} {A : Around} {outer : List Env} {s : Shared} {H : Hp} {E : XK} (m_abs : mg "abs" = none) (cm2_Ratio : CalM P w K mg base (L2.CX P w) 3 "Ratio" C_Ratio ["self", "numerator", "denominator"] (spRInitX K C_Ratio C_InvalidNumber) [])
    (hr : Room 4 (A.deeper (envOfC "Ratio.__abs__" (defScope s_Ratio___abs__) s.heap.objs.size f cdv))) :
    PSs (cxOf CX P w K mg base ["self"] "Ratio.__abs__" (defScope s_Ratio___abs__) f cdv A outer s H E) (defBody s_Ratio___abs__) (t_Ratio___abs__ K C_Ratio C_InvalidNumber) :=
  (pss_one (ps_ret (pe_calm cm2_Ratio (hr.mono (by decide)) (by rfl) passE0 (pa_cons (pe_callB call_abs (by rfl) m_abs (by decide +kernel) (pa_cons (pe_fld (pv 0) rfl) pa_nil)) (pa_cons (pe_fld (pv 0) rfl) pa_nil)))))
theorem ok_Ratio___abs__ {P : Program} {w : World} {K : PySem.W.Frag} {mg : Str → Option Value} {base : Heap} {C_Ratio : Addr} {C_InvalidNumber : Addr} {f : Addr} {fd : FuncData} (F : FunD K "__abs__" "Ratio.__abs__" (defArgs s_Ratio___abs__) (defBody s_Ratio___abs__) (defScope s_Ratio___abs__) [] [] f fd) (m_abs : mg "abs" = none) (cm2_Ratio : CalM P w K mg base (L2.CX P w) 3 "Ratio" C_Ratio ["self", "numerator", "denominator"] (spRInitX K C_Ratio C_InvalidNumber) []) : FnOk P w K mg base CX0 5 f fd ["self"] (spAbsR K C_Ratio C_InvalidNumber) :=
  F.ok sc_Ratio___abs__ (fun vs H Q E h => by first | (obtain ⟨_, rfl, _⟩ := h; rfl) | (obtain ⟨_, _, rfl, _⟩ := h; rfl) | (obtain ⟨_, _, _, rfl, _⟩ := h; rfl) | (obtain ⟨_, _, _, _, rfl, _⟩ := h; rfl) | (obtain ⟨_, _, _, _, _, rfl, _⟩ := h; rfl) | (obtain ⟨_, _, _, _, _, _, rfl, _⟩ := h; rfl) | (obtain ⟨_, _, _, _, _, _, _, rfl, _⟩ := h; rfl) | (obtain ⟨_, _, _, _, _, _, _, _, rfl, _⟩ := h; rfl) | (obtain ⟨_, _, _, _, _, _, _, _, _, rfl, _⟩ := h; rfl) | (obtain ⟨_, _, _, _, _, _, _, _, _, _, rfl, _⟩ := h; rfl) | (obtain ⟨_, _, _, _, _, _, _, _, _, _, _, rfl, _⟩ := h; rfl) | (obtain ⟨_, _, _, _, _, _, _, _, _, _, _, _, rfl, _⟩ := h; rfl) | (obtain ⟨_, _, _, _, _, _, _, _, _, _, _, _, _, rfl, _⟩ := h; rfl) | (obtain ⟨_, _, _, _, _, _, _, _, _, _, _, _, _, _, rfl, _⟩ := h; rfl) | (obtain ⟨_, _, _, _, _, _, _, _, _, _, _, _, _, _, _, rfl, _⟩ := h; rfl) | (obtain ⟨_, _, _, _, _, _, _, _, _, _, _, _, _, _, _, _, rfl, _⟩ := h; rfl) | (obtain ⟨_, _, _, _, _, _, _, _, _, _, _, _, _, _, _, _, _, rfl, _⟩ := h; rfl) | (obtain ⟨_, _, _, _, _, _, _, _, _, _, _, _, _, _, _, _, _, _, rfl, _⟩ := h; rfl) | (obtain ⟨_, _, _, _, _, _, _, _, _, _, _, _, _, _, _, _, _, _, _, rfl, _⟩ := h; rfl) | (obtain ⟨_, _, _, _, _, _, _, _, _, _, _, _, _, _, _, _, _, _, _, _, rfl, _⟩ := h; rfl) | (obtain ⟨_, _, _, _, _, _, _, _, _, _, _, _, _, _, _, _, _, _, _, _, _, rfl, _⟩ := h; rfl) | (obtain ⟨_, _, _, _, _, _, _, _, _, _, _, _, _, _, _, _, _, _, _, _, _, _, rfl, _⟩ := h; rfl) | (obtain ⟨_, _, _, _, _, _, _, _, _, _, _, _, _, _, _, _, _, _, _, _, _, _, _, rfl, _⟩ := h; rfl) | (obtain ⟨_, _, _, _, _, _, _, _, _, _, _, _, _, _, _, _, _, _, _, _, _, _, _, _, rfl, _⟩ := h; rfl) | (obtain ⟨_, _, _, _, _, _, _, _, _, _, _, _, _, _, _, _, _, _, _, _, _, _, _, _, _, rfl, _⟩ := h; rfl)) (fun cdv A outer s H vs Q E hr h => ⟨_, d_Ratio___abs__ m_abs cm2_Ratio hr, p_absR h⟩)
theorem sc_Ratio___bool__ : FnScope ["self"] ["self"] (defScope s_Ratio___bool__) := ⟨rfl, rfl, rfl, by decide +kernel, rfl, by decide +kernel, by decide +kernel⟩
theorem d_Ratio___bool__ {P : Program} {w : World} {K : PySem.W.Frag} {mg : Str → Option Value} {base : Heap} {C_Ratio : Addr} {CX : CXT} {f : Addr} {cdv : Value} {A : Around} {outer : List Env} {s : Shared} {H : Hp} {E : XK} (m_bool : mg "bool" = none)
    (hr : Room 0 (A.deeper (envOfC "Ratio.__bool__" (defScope s_Ratio___bool__) s.heap.objs.size f cdv))) :
    PSs (cxOf CX P w K mg base ["self"] "Ratio.__bool__" (defScope s_Ratio___bool__) f cdv A outer s H E) (defBody s_Ratio___bool__) (t_Ratio___bool__ K C_Ratio) :=
  (pss_one (ps_ret (pe_callTy call_bool1 (by rfl) m_bool (by decide +kernel) (pa_cons (pe_cmpR op_ne (pe_fld (pv 0) rfl) pe_int (nomark _)) pa_nil))))
theorem ok_Ratio___bool__ {P : Program} {w : World} {K : PySem.W.Frag} {mg : Str → Option Value} {base : Heap} {C_Ratio : Addr} {f : Addr} {fd : FuncData} (F : FunD K "__bool__" "Ratio.__bool__" (defArgs s_Ratio___bool__) (defBody s_Ratio___bool__) (defScope s_Ratio___bool__) [] [] f fd) (m_bool : mg "bool" = none) : FnOk P w K mg base CX0 1 f fd ["self"] (spBoolR K C_Ratio) :=
  F.ok sc_Ratio___bool__ (fun vs H Q E h => by first | (obtain ⟨_, rfl, _⟩ := h; rfl) | (obtain ⟨_, _, rfl, _⟩ := h; rfl) | (obtain ⟨_, _, _, rfl, _⟩ := h; rfl) | (obtain ⟨_, _, _, _, rfl, _⟩ := h; rfl) | (obtain ⟨_, _, _, _, _, rfl, _⟩ := h; rfl) | (obtain ⟨_, _, _, _, _, _, rfl, _⟩ := h; rfl) | (obtain ⟨_, _, _, _, _, _, _, rfl, _⟩ := h; rfl) | (obtain ⟨_, _, _, _, _, _, _, _, rfl, _⟩ := h; rfl) | (obtain ⟨_, _, _, _, _, _, _, _, _, rfl, _⟩ := h; rfl) | (obtain ⟨_, _, _, _, _, _, _, _, _, _, rfl, _⟩ := h; rfl) | (obtain ⟨_, _, _, _, _, _, _, _, _, _, _, rfl, _⟩ := h; rfl) | (obtain ⟨_, _, _, _, _, _, _, _, _, _, _, _, rfl, _⟩ := h; rfl) | (obtain ⟨_, _, _, _, _, _, _, _, _, _, _, _, _, rfl, _⟩ := h; rfl) | (obtain ⟨_, _, _, _, _, _, _, _, _, _, _, _, _, _, rfl, _⟩ := h; rfl) | (obtain ⟨_, _, _, _, _, _, _, _, _, _, _, _, _, _, _, rfl, _⟩ := h; rfl) | (obtain ⟨_, _, _, _, _, _, _, _, _, _, _, _, _, _, _, _, rfl, _⟩ := h; rfl) | (obtain ⟨_, _, _, _, _, _, _, _, _, _, _, _, _, _, _, _, _, rfl, _⟩ := h; rfl) | (obtain ⟨_, _, _, _, _, _, _, _, _, _, _, _, _, _, _, _, _, _, rfl, _⟩ := h; rfl) | (obtain ⟨_, _, _, _, _, _, _, _, _, _, _, _, _, _, _, _, _, _, _, rfl, _⟩ := h; rfl) | (obtain ⟨_, _, _, _, _, _, _, _, _, _, _, _, _, _, _, _, _, _, _, _, rfl, _⟩ := h; rfl) | (obtain ⟨_, _, _, _, _, _, _, _, _, _, _, _, _, _, _, _, _, _, _, _, _, rfl, _⟩ := h; rfl) | (obtain ⟨_, _, _, _, _, _, _, _, _, _, _, _, _, _, _, _, _, _, _, _, _, _, rfl, _⟩ := h; rfl) | (obtain ⟨_, _, _, _, _, _, _, _, _, _, _, _, _, _, _, _, _, _, _, _, _, _, _, rfl, _⟩ := h; rfl) | (obtain ⟨_, _, _, _, _, _, _, _, _, _, _, _, _, _, _, _, _, _, _, _, _, _, _, _, rfl, _⟩ := h; rfl) | (obtain ⟨_, _, _, _, _, _, _, _, _, _, _, _, _, _, _, _, _, _, _, _, _, _, _, _, _, rfl, _⟩ := h; rfl)) (fun cdv A outer s H vs Q E hr h => ⟨_, d_Ratio___bool__ m_bool hr, p_boolR h⟩)
theorem sc_Ratio___str__ : FnScope ["self"] ["self"] (defScope s_Ratio___str__) := ⟨rfl, rfl, rfl, by decide +kernel, rfl, by decide +kernel, by decide +kernel⟩
theorem d_Ratio___str__ {P : Program} {w : World} {K : PySem.W.Frag} {mg : Str → Option Value} {base : Heap} {C_Ratio : Addr} {CX : CXT} {f : Addr} {cdv : Value} {A : Around} {outer : List Env} {s : Shared} {H : Hp} {E : XK} (m_str : mg "str" = none)
    (hr : Room 0 (A.deeper (envOfC "Ratio.__str__" (defScope s_Ratio___str__) s.heap.objs.size f cdv))) :
    PSs (cxOf CX P w K mg base ["self"] "Ratio.__str__" (defScope s_Ratio___str__) f cdv A outer s H E) (defBody s_Ratio___str__) (t_Ratio___str__ K C_Ratio) :=
  (pss_cons (ps_if (pt_cmpR op_eq (pe_fld (pv 0) rfl) pe_int (nomark _)) (pss_one (ps_ret (pe_callTy call_str_int (by rfl) m_str (by decide +kernel) (pa_cons (pe_fld (pv 0) rfl) pa_nil)))) pss_nil)
    (pss_one (ps_ret (pe_join (PJ.cons (pe_fmt (pe_fld (pv 0) rfl)) (PJ.cons pe_str (PJ.cons (pe_fmt (pe_fld (pv 0) rfl)) PJ.nil)))))))
theorem ok_Ratio___str__ {P : Program} {w : World} {K : PySem.W.Frag} {mg : Str → Option Value} {base : Heap} {C_Ratio : Addr} {f : Addr} {fd : FuncData} (F : FunD K "__str__" "Ratio.__str__" (defArgs s_Ratio___str__) (defBody s_Ratio___str__) (defScope s_Ratio___str__) [] [] f fd) (m_str : mg "str" = none) : FnOk P w K mg base CX0 1 f fd ["self"] (spStrR K C_Ratio) :=
  F.ok sc_Ratio___str__ (fun vs H Q E h => by first | (obtain ⟨_, rfl, _⟩ := h; rfl) | (obtain ⟨_, _, rfl, _⟩ := h; rfl) | (obtain ⟨_, _, _, rfl, _⟩ := h; rfl) | (obtain ⟨_, _, _, _, rfl, _⟩ := h; rfl) | (obtain ⟨_, _, _, _, _, rfl, _⟩ := h; rfl) | (obtain ⟨_, _, _, _, _, _, rfl, _⟩ := h; rfl) | (obtain ⟨_, _, _, _, _, _, _, rfl, _⟩ := h; rfl) | (obtain ⟨_, _, _, _, _, _, _, _, rfl, _⟩ := h; rfl) | (obtain ⟨_, _, _, _, _, _, _, _, _, rfl, _⟩ := h; rfl) | (obtain ⟨_, _, _, _, _, _, _, _, _, _, rfl, _⟩ := h; rfl) | (obtain ⟨_, _, _, _, _, _, _, _, _, _, _, rfl, _⟩ := h; rfl) | (obtain ⟨_, _, _, _, _, _, _, _, _, _, _, _, rfl, _⟩ := h; rfl) | (obtain ⟨_, _, _, _, _, _, _, _, _, _, _, _, _, rfl, _⟩ := h; rfl) | (obtain ⟨_, _, _, _, _, _, _, _, _, _, _, _, _, _, rfl, _⟩ := h; rfl) | (obtain ⟨_, _, _, _, _, _, _, _, _, _, _, _, _, _, _, rfl, _⟩ := h; rfl) | (obtain ⟨_, _, _, _, _, _, _, _, _, _, _, _, _, _, _, _, rfl, _⟩ := h; rfl) | (obtain ⟨_, _, _, _, _, _, _, _, _, _, _, _, _, _, _, _, _, rfl, _⟩ := h; rfl) | (obtain ⟨_, _, _, _, _, _, _, _, _, _, _, _, _, _, _, _, _, _, rfl, _⟩ := h; rfl) | (obtain ⟨_, _, _, _, _, _, _, _, _, _, _, _, _, _, _, _, _, _, _, rfl, _⟩ := h; rfl) | (obtain ⟨_, _, _, _, _, _, _, _, _, _, _, _, _, _, _, _, _, _, _, _, rfl, _⟩ := h; rfl) | (obtain ⟨_, _, _, _, _, _, _, _, _, _, _, _, _, _, _, _, _, _, _, _, _, rfl, _⟩ := h; rfl) | (obtain ⟨_, _, _, _, _, _, _, _, _, _, _, _, _, _, _, _, _, _, _, _, _, _, rfl, _⟩ := h; rfl) | (obtain ⟨_, _, _, _, _, _, _, _, _, _, _, _, _, _, _, _, _, _, _, _, _, _, _, rfl, _⟩ := h; rfl) | (obtain ⟨_, _, _, _, _, _, _, _, _, _, _, _, _, _, _, _, _, _, _, _, _, _, _, _, rfl, _⟩ := h; rfl) | (obtain ⟨_, _, _, _, _, _, _, _, _, _, _, _, _, _, _, _, _, _, _, _, _, _, _, _, _, rfl, _⟩ := h; rfl)) (fun cdv A outer s H vs Q E hr h => ⟨_, d_Ratio___str__ m_str hr, p_strR h⟩)
theorem sc_Ratio___repr__ : FnScope ["self"] ["self"] (defScope s_Ratio___repr__) := ⟨rfl, rfl, rfl, by decide +kernel, rfl, by decide +kernel, by decide +kernel⟩
theorem d_Ratio___repr__ {P : Program} {w : World} {K : PySem.W.Frag} {mg : Str → Option Value} {base : Heap} {C_Ratio : Addr} {f : Addr} {cdv : Value} {A : Around} {outer : List Env} {s : Shared} {H : Hp} {E : XK}  :
    PSs (cxC P w K mg base ["self"] "Ratio.__repr__" (defScope s_Ratio___repr__) f cdv A outer s H E) (defBody s_Ratio___repr__) (t_Ratio___repr__ K C_Ratio) :=
  (pss_one (ps_ret (pe_join (PJ.cons pe_str (PJ.cons (pe_fmt (pe_fld (pv 0) rfl)) (PJ.cons pe_str (PJ.cons (pe_fmt (pe_fld (pv 0) rfl)) (PJ.cons pe_str PJ.nil))))))))
theorem ok_Ratio___repr__ {P : Program} {w : World} {K : PySem.W.Frag} {mg : Str → Option Value} {base : Heap} {C_Ratio : Addr} {f : Addr} {fd : FuncData} (F : FunD K "__repr__" "Ratio.__repr__" (defArgs s_Ratio___repr__) (defBody s_Ratio___repr__) (defScope s_Ratio___repr__) [] [] f fd)  : FnC P w K mg base 1 f fd ["self"] (spRRepr K C_Ratio) :=
  Rv.FunD.okC F sc_Ratio___repr__ (fun vs H Q E h => by first | (obtain ⟨_, rfl, _⟩ := h; rfl) | (obtain ⟨_, _, rfl, _⟩ := h; rfl) | (obtain ⟨_, _, _, rfl, _⟩ := h; rfl) | (obtain ⟨_, _, _, _, rfl, _⟩ := h; rfl) | (obtain ⟨_, _, _, _, _, rfl, _⟩ := h; rfl) | (obtain ⟨_, _, _, _, _, _, rfl, _⟩ := h; rfl) | (obtain ⟨_, _, _, _, _, _, _, rfl, _⟩ := h; rfl) | (obtain ⟨_, _, _, _, _, _, _, _, rfl, _⟩ := h; rfl) | (obtain ⟨_, _, _, _, _, _, _, _, _, rfl, _⟩ := h; rfl) | (obtain ⟨_, _, _, _, _, _, _, _, _, _, rfl, _⟩ := h; rfl) | (obtain ⟨_, _, _, _, _, _, _, _, _, _, _, rfl, _⟩ := h; rfl) | (obtain ⟨_, _, _, _, _, _, _, _, _, _, _, _, rfl, _⟩ := h; rfl) | (obtain ⟨_, _, _, _, _, _, _, _, _, _, _, _, _, rfl, _⟩ := h; rfl) | (obtain ⟨_, _, _, _, _, _, _, _, _, _, _, _, _, _, rfl, _⟩ := h; rfl) | (obtain ⟨_, _, _, _, _, _, _, _, _, _, _, _, _, _, _, rfl, _⟩ := h; rfl) | (obtain ⟨_, _, _, _, _, _, _, _, _, _, _, _, _, _, _, _, rfl, _⟩ := h; rfl) | (obtain ⟨_, _, _, _, _, _, _, _, _, _, _, _, _, _, _, _, _, rfl, _⟩ := h; rfl) | (obtain ⟨_, _, _, _, _, _, _, _, _, _, _, _, _, _, _, _, _, _, rfl, _⟩ := h; rfl) | (obtain ⟨_, _, _, _, _, _, _, _, _, _, _, _, _, _, _, _, _, _, _, rfl, _⟩ := h; rfl) | (obtain ⟨_, _, _, _, _, _, _, _, _, _, _, _, _, _, _, _, _, _, _, _, rfl, _⟩ := h; rfl) | (obtain ⟨_, _, _, _, _, _, _, _, _, _, _, _, _, _, _, _, _, _, _, _, _, rfl, _⟩ := h; rfl) | (obtain ⟨_, _, _, _, _, _, _, _, _, _, _, _, _, _, _, _, _, _, _, _, _, _, rfl, _⟩ := h; rfl) | (obtain ⟨_, _, _, _, _, _, _, _, _, _, _, _, _, _, _, _, _, _, _, _, _, _, _, rfl, _⟩ := h; rfl) | (obtain ⟨_, _, _, _, _, _, _, _, _, _, _, _, _, _, _, _, _, _, _, _, _, _, _, _, rfl, _⟩ := h; rfl) | (obtain ⟨_, _, _, _, _, _, _, _, _, _, _, _, _, _, _, _, _, _, _, _, _, _, _, _, _, rfl, _⟩ := h; rfl)) (fun cdv A outer s H vs Q E h => ⟨_, d_Ratio___repr__ , p_rrepr h⟩)
theorem sc__law_pool : FnScope ["_law_script", "_law_k", "_law_cell", "_law_number", "_law_mixed"] ["_law_script", "_law_k"] (defScope s__law_pool) := ⟨rfl, rfl, rfl, by decide +kernel, rfl, by decide +kernel, by decide +kernel⟩
theorem d__law_pool {P : Program} {w : World} {K : PySem.W.Frag} {mg : Str → Option Value} {base : Heap} {CX : CXT} {f : Addr} {cdv : Value} {A : Around} {outer : List Env} {s : Shared} {H : Hp} {E : XK} (m_int : mg "int" = none)
    (hr : Room 0 (A.deeper (envOfC "_law_pool" (defScope s__law_pool) s.heap.objs.size f cdv))) :
    PSs (cxOf CX P w K mg base ["_law_script", "_law_k", "_law_cell", "_law_number", "_law_mixed"] "_law_pool" (defScope s__law_pool) f cdv A outer s H E) (defBody s__law_pool) (RvM.t__law_pool K) :=
  (pss_cons (ps_set (i := 2) sc__law_pool.nd rfl (by first | exact Or.inl rfl | exact Or.inr rfl) (pe_ix ix_list (pe_op op_cat (pe_slice sl_list (pv 0) (po_some (pv 1)) (po_some (pe_op op_add (pv 1) pe_int))) (pe_lst (pa_cons pe_int pa_nil))) pe_int (fun _ _ => rfl)))
    (pss_cons (ps_set (i := 3) sc__law_pool.nd rfl (by first | exact Or.inl rfl | exact Or.inr rfl) (pe_ifExp (pt_cmpR op_ge (pv 2) pe_int (nomark _)) (pv 2) (pe_op op_sub (pe_un un_neg pe_int) (pv 2))))
    (pss_cons (ps_set (i := 4) sc__law_pool.nd rfl (by first | exact Or.inl rfl | exact Or.inr rfl) (pe_op op_mod (pe_op op_mul (pe_op op_add (pe_op op_add (pe_op op_add (pe_op op_mod (pv 3) pe_int) (pe_op op_mul (pe_op op_mul pe_int (pv 1)) (pv 1))) (pe_op op_mul pe_int (pv 1))) pe_int) pe_int) pe_int))
    (pss_one (ps_ret (pe_lst (pa_cons (pe_op op_mul (pv 3) (pe_callTy call_int1 (by rfl) m_int (by decide +kernel) (pa_cons (pe_cmpR op_ge (pv 3) (pe_op op_pow pe_int pe_int) (nomark _)) pa_nil))) (pa_cons (pe_op op_mod (pe_op op_mul (pv 4) (pv 4)) pe_int) pa_nil))))))))
theorem ok__law_pool {P : Program} {w : World} {K : PySem.W.Frag} {mg : Str → Option Value} {base : Heap} {f : Addr} {fd : FuncData} (F : FunD K "_law_pool" "_law_pool" (defArgs s__law_pool) (defBody s__law_pool) (defScope s__law_pool) [] [] f fd) (m_int : mg "int" = none) : FnOk P w K mg base CX0 1 f fd ["_law_script", "_law_k"] (RvM.spPool K) :=
  F.ok sc__law_pool (fun vs H Q E h => by first | (obtain ⟨_, rfl, _⟩ := h; rfl) | (obtain ⟨_, _, rfl, _⟩ := h; rfl) | (obtain ⟨_, _, _, rfl, _⟩ := h; rfl) | (obtain ⟨_, _, _, _, rfl, _⟩ := h; rfl) | (obtain ⟨_, _, _, _, _, rfl, _⟩ := h; rfl) | (obtain ⟨_, _, _, _, _, _, rfl, _⟩ := h; rfl) | (obtain ⟨_, _, _, _, _, _, _, rfl, _⟩ := h; rfl) | (obtain ⟨_, _, _, _, _, _, _, _, rfl, _⟩ := h; rfl) | (obtain ⟨_, _, _, _, _, _, _, _, _, rfl, _⟩ := h; rfl) | (obtain ⟨_, _, _, _, _, _, _, _, _, _, rfl, _⟩ := h; rfl) | (obtain ⟨_, _, _, _, _, _, _, _, _, _, _, rfl, _⟩ := h; rfl) | (obtain ⟨_, _, _, _, _, _, _, _, _, _, _, _, rfl, _⟩ := h; rfl) | (obtain ⟨_, _, _, _, _, _, _, _, _, _, _, _, _, rfl, _⟩ := h; rfl) | (obtain ⟨_, _, _, _, _, _, _, _, _, _, _, _, _, _, rfl, _⟩ := h; rfl) | (obtain ⟨_, _, _, _, _, _, _, _, _, _, _, _, _, _, _, rfl, _⟩ := h; rfl) | (obtain ⟨_, _, _, _, _, _, _, _, _, _, _, _, _, _, _, _, rfl, _⟩ := h; rfl) | (obtain ⟨_, _, _, _, _, _, _, _, _, _, _, _, _, _, _, _, _, rfl, _⟩ := h; rfl) | (obtain ⟨_, _, _, _, _, _, _, _, _, _, _, _, _, _, _, _, _, _, rfl, _⟩ := h; rfl) | (obtain ⟨_, _, _, _, _, _, _, _, _, _, _, _, _, _, _, _, _, _, _, rfl, _⟩ := h; rfl) | (obtain ⟨_, _, _, _, _, _, _, _, _, _, _, _, _, _, _, _, _, _, _, _, rfl, _⟩ := h; rfl) | (obtain ⟨_, _, _, _, _, _, _, _, _, _, _, _, _, _, _, _, _, _, _, _, _, rfl, _⟩ := h; rfl) | (obtain ⟨_, _, _, _, _, _, _, _, _, _, _, _, _, _, _, _, _, _, _, _, _, _, rfl, _⟩ := h; rfl) | (obtain ⟨_, _, _, _, _, _, _, _, _, _, _, _, _, _, _, _, _, _, _, _, _, _, _, rfl, _⟩ := h; rfl) | (obtain ⟨_, _, _, _, _, _, _, _, _, _, _, _, _, _, _, _, _, _, _, _, _, _, _, _, rfl, _⟩ := h; rfl) | (obtain ⟨_, _, _, _, _, _, _, _, _, _, _, _, _, _, _, _, _, _, _, _, _, _, _, _, _, rfl, _⟩ := h; rfl)) (fun cdv A outer s H vs Q E hr h => ⟨_, d__law_pool m_int hr, RvM.p_pool h⟩)
theorem sc__law_take : FnScope ["_law_pool_here", "_law_many", "_law_digit"] ["_law_pool_here", "_law_many"] (defScope s__law_take) := ⟨rfl, rfl, rfl, by decide +kernel, rfl, by decide +kernel, by decide +kernel⟩
theorem d__law_take {P : Program} {w : World} {K : PySem.W.Frag} {mg : Str → Option Value} {base : Heap} {CX : CXT} {f : Addr} {cdv : Value} {A : Around} {outer : List Env} {s : Shared} {H : Hp} {E : XK} 
    (hr : Room 0 (A.deeper (envOfC "_law_take" (defScope s__law_take) s.heap.objs.size f cdv))) :
    PSs (cxOf CX P w K mg base ["_law_pool_here", "_law_many", "_law_digit"] "_law_take" (defScope s__law_take) f cdv A outer s H E) (defBody s__law_take) (RvM.t__law_take K) :=
  (pss_cons (ps_if (pt_cmpR op_gt (pe_ix ix_list (pv 0) pe_int (fun _ _ => rfl)) pe_int (nomark _)) (pss_cons (ps_set (i := 2) sc__law_take.nd rfl (by first | exact Or.inl rfl | exact Or.inr rfl) (pe_op op_mod (pe_ix ix_list (pv 0) pe_int (fun _ _ => rfl)) (pv 1)))
    (pss_cons (ps_asg (pe_op op_fdivW (pe_ix ix_list (pv 0) pe_int (fun _ _ => rfl)) (pv 1)) (pg_sub (pv 0) pe_int set_list))
    (pss_one (ps_ret (pv 2))))) pss_nil)
    (pss_cons (ps_asg (pe_op op_mod (pe_op op_add (pe_op op_mul (pe_ix ix_list (pv 0) pe_int (fun _ _ => rfl)) pe_int) pe_int) pe_int) (pg_sub (pv 0) pe_int set_list))
    (pss_one (ps_ret (pe_op op_mod (pe_op op_fdivW (pe_op op_mod (pe_op op_mul (pe_ix ix_list (pv 0) pe_int (fun _ _ => rfl)) (pe_ix ix_list (pv 0) pe_int (fun _ _ => rfl))) pe_int) pe_int) (pv 1))))))
theorem ok__law_take {P : Program} {w : World} {K : PySem.W.Frag} {mg : Str → Option Value} {base : Heap} {f : Addr} {fd : FuncData} (F : FunD K "_law_take" "_law_take" (defArgs s__law_take) (defBody s__law_take) (defScope s__law_take) [] [] f fd)  : FnOk P w K mg base CX0 1 f fd ["_law_pool_here", "_law_many"] (RvM.spTake K) :=
  F.ok sc__law_take (fun vs H Q E h => by first | (obtain ⟨_, rfl, _⟩ := h; rfl) | (obtain ⟨_, _, rfl, _⟩ := h; rfl) | (obtain ⟨_, _, _, rfl, _⟩ := h; rfl) | (obtain ⟨_, _, _, _, rfl, _⟩ := h; rfl) | (obtain ⟨_, _, _, _, _, rfl, _⟩ := h; rfl) | (obtain ⟨_, _, _, _, _, _, rfl, _⟩ := h; rfl) | (obtain ⟨_, _, _, _, _, _, _, rfl, _⟩ := h; rfl) | (obtain ⟨_, _, _, _, _, _, _, _, rfl, _⟩ := h; rfl) | (obtain ⟨_, _, _, _, _, _, _, _, _, rfl, _⟩ := h; rfl) | (obtain ⟨_, _, _, _, _, _, _, _, _, _, rfl, _⟩ := h; rfl) | (obtain ⟨_, _, _, _, _, _, _, _, _, _, _, rfl, _⟩ := h; rfl) | (obtain ⟨_, _, _, _, _, _, _, _, _, _, _, _, rfl, _⟩ := h; rfl) | (obtain ⟨_, _, _, _, _, _, _, _, _, _, _, _, _, rfl, _⟩ := h; rfl) | (obtain ⟨_, _, _, _, _, _, _, _, _, _, _, _, _, _, rfl, _⟩ := h; rfl) | (obtain ⟨_, _, _, _, _, _, _, _, _, _, _, _, _, _, _, rfl, _⟩ := h; rfl) | (obtain ⟨_, _, _, _, _, _, _, _, _, _, _, _, _, _, _, _, rfl, _⟩ := h; rfl) | (obtain ⟨_, _, _, _, _, _, _, _, _, _, _, _, _, _, _, _, _, rfl, _⟩ := h; rfl) | (obtain ⟨_, _, _, _, _, _, _, _, _, _, _, _, _, _, _, _, _, _, rfl, _⟩ := h; rfl) | (obtain ⟨_, _, _, _, _, _, _, _, _, _, _, _, _, _, _, _, _, _, _, rfl, _⟩ := h; rfl) | (obtain ⟨_, _, _, _, _, _, _, _, _, _, _, _, _, _, _, _, _, _, _, _, rfl, _⟩ := h; rfl) | (obtain ⟨_, _, _, _, _, _, _, _, _, _, _, _, _, _, _, _, _, _, _, _, _, rfl, _⟩ := h; rfl) | (obtain ⟨_, _, _, _, _, _, _, _, _, _, _, _, _, _, _, _, _, _, _, _, _, _, rfl, _⟩ := h; rfl) | (obtain ⟨_, _, _, _, _, _, _, _, _, _, _, _, _, _, _, _, _, _, _, _, _, _, _, rfl, _⟩ := h; rfl) | (obtain ⟨_, _, _, _, _, _, _, _, _, _, _, _, _, _, _, _, _, _, _, _, _, _, _, _, rfl, _⟩ := h; rfl) | (obtain ⟨_, _, _, _, _, _, _, _, _, _, _, _, _, _, _, _, _, _, _, _, _, _, _, _, _, rfl, _⟩ := h; rfl)) (fun cdv A outer s H vs Q E hr h => ⟨_, d__law_take  hr, RvM.p_take h⟩)
theorem sc__law_whole : FnScope ["_law_pool_here", "_law_size", "_law_more"] ["_law_pool_here"] (defScope s__law_whole) := ⟨rfl, rfl, rfl, by decide +kernel, rfl, by decide +kernel, by decide +kernel⟩
theorem d__law_whole {P : Program} {w : World} {K : PySem.W.Frag} {mg : Str → Option Value} {base : Heap} {CX : CXT} {f : Addr} {cdv : Value} {A : Around} {outer : List Env} {s : Shared} {H : Hp} {E : XK} (c__law_take : Cal P w K mg base CX0 1 "_law_take" ["_law_pool_here", "_law_many"] (RvM.spTake K)) (m_int : mg "int" = none)
    (hr : Room 1 (A.deeper (envOfC "_law_whole" (defScope s__law_whole) s.heap.objs.size f cdv))) :
    PSs (cxOf CX P w K mg base ["_law_pool_here", "_law_size", "_law_more"] "_law_whole" (defScope s__law_whole) f cdv A outer s H E) (defBody s__law_whole) (t__law_whole01 K) :=
  (pss_cons (ps_set (i := 1) sc__law_whole.nd rfl (by first | exact Or.inl rfl | exact Or.inr rfl) (pe_ix ix_list (pe_lst (pa_cons pe_int (pa_cons pe_int (pa_cons (pe_op op_pow pe_int pe_int) pa_nil)))) (pe_cal c__law_take (hr.mono (by decide)) rfl pass0 (pa_cons (pv 0) (pa_cons pe_int pa_nil))) (fun _ _ => rfl)))
    (pss_cons (ps_set (i := 2) sc__law_whole.nd rfl (by first | exact Or.inl rfl | exact Or.inr rfl) (pe_ix ix_list (pe_lst (pa_cons pe_int (pa_cons (pe_op op_pow pe_int pe_int) pa_nil))) (pe_op op_mulW (pe_callTy call_int1 (by rfl) m_int (by decide +kernel) (pa_cons (pe_cmpR op_gt (pv 1) pe_int (nomark _)) pa_nil)) (pe_cal c__law_take (hr.mono (by decide)) rfl pass0 (pa_cons (pv 0) (pa_cons pe_int pa_nil)))) (fun _ _ => rfl)))
    (pss_one (ps_ret (pe_op op_mulW (pe_op op_add (pe_cal c__law_take (hr.mono (by decide)) rfl pass0 (pa_cons (pv 0) (pa_cons (pv 1) pa_nil))) (pv 2)) (pe_ix ix_list (pe_lst (pa_cons pe_int (pa_cons (pe_un un_neg pe_int) pa_nil))) (pe_cal c__law_take (hr.mono (by decide)) rfl pass0 (pa_cons (pv 0) (pa_cons pe_int pa_nil))) (fun _ _ => rfl)))))))
theorem ok__law_whole {P : Program} {w : World} {K : PySem.W.Frag} {mg : Str → Option Value} {base : Heap} {f : Addr} {fd : FuncData} (F : FunD K "_law_whole" "_law_whole" (defArgs s__law_whole) (defBody s__law_whole) (defScope s__law_whole) [] [] f fd) (c__law_take : Cal P w K mg base CX0 1 "_law_take" ["_law_pool_here", "_law_many"] (RvM.spTake K)) (m_int : mg "int" = none) : FnOk P w K mg base CX0 2 f fd ["_law_pool_here"] (spLWhole01 K) :=
  F.ok sc__law_whole (fun vs H Q E h => by first | (obtain ⟨_, rfl, _⟩ := h; rfl) | (obtain ⟨_, _, rfl, _⟩ := h; rfl) | (obtain ⟨_, _, _, rfl, _⟩ := h; rfl) | (obtain ⟨_, _, _, _, rfl, _⟩ := h; rfl) | (obtain ⟨_, _, _, _, _, rfl, _⟩ := h; rfl) | (obtain ⟨_, _, _, _, _, _, rfl, _⟩ := h; rfl) | (obtain ⟨_, _, _, _, _, _, _, rfl, _⟩ := h; rfl) | (obtain ⟨_, _, _, _, _, _, _, _, rfl, _⟩ := h; rfl) | (obtain ⟨_, _, _, _, _, _, _, _, _, rfl, _⟩ := h; rfl) | (obtain ⟨_, _, _, _, _, _, _, _, _, _, rfl, _⟩ := h; rfl) | (obtain ⟨_, _, _, _, _, _, _, _, _, _, _, rfl, _⟩ := h; rfl) | (obtain ⟨_, _, _, _, _, _, _, _, _, _, _, _, rfl, _⟩ := h; rfl) | (obtain ⟨_, _, _, _, _, _, _, _, _, _, _, _, _, rfl, _⟩ := h; rfl) | (obtain ⟨_, _, _, _, _, _, _, _, _, _, _, _, _, _, rfl, _⟩ := h; rfl) | (obtain ⟨_, _, _, _, _, _, _, _, _, _, _, _, _, _, _, rfl, _⟩ := h; rfl) | (obtain ⟨_, _, _, _, _, _, _, _, _, _, _, _, _, _, _, _, rfl, _⟩ := h; rfl) | (obtain ⟨_, _, _, _, _, _, _, _, _, _, _, _, _, _, _, _, _, rfl, _⟩ := h; rfl) | (obtain ⟨_, _, _, _, _, _, _, _, _, _, _, _, _, _, _, _, _, _, rfl, _⟩ := h; rfl) | (obtain ⟨_, _, _, _, _, _, _, _, _, _, _, _, _, _, _, _, _, _, _, rfl, _⟩ := h; rfl) | (obtain ⟨_, _, _, _, _, _, _, _, _, _, _, _, _, _, _, _, _, _, _, _, rfl, _⟩ := h; rfl) | (obtain ⟨_, _, _, _, _, _, _, _, _, _, _, _, _, _, _, _, _, _, _, _, _, rfl, _⟩ := h; rfl) | (obtain ⟨_, _, _, _, _, _, _, _, _, _, _, _, _, _, _, _, _, _, _, _, _, _, rfl, _⟩ := h; rfl) | (obtain ⟨_, _, _, _, _, _, _, _, _, _, _, _, _, _, _, _, _, _, _, _, _, _, _, rfl, _⟩ := h; rfl) | (obtain ⟨_, _, _, _, _, _, _, _, _, _, _, _, _, _, _, _, _, _, _, _, _, _, _, _, rfl, _⟩ := h; rfl) | (obtain ⟨_, _, _, _, _, _, _, _, _, _, _, _, _, _, _, _, _, _, _, _, _, _, _, _, _, rfl, _⟩ := h; rfl)) (fun cdv A outer s H vs Q E hr h => ⟨_, d__law_whole c__law_take m_int hr, p_lwhole01 h⟩)
theorem sc__law_said : FnScope ["_law_top", "_law_bottom", "e"] ["_law_top", "_law_bottom"] (defScope s__law_said) := ⟨rfl, rfl, rfl, by decide +kernel, rfl, by decide +kernel, by decide +kernel⟩
theorem d__law_said {P : Program} {w : World} {K : PySem.W.Frag} {mg : Str → Option Value} {base : Heap} {C_Ratio : Addr} {C_InvalidNumber : Addr} {C_RainError : Addr} {CX : CXT} {f : Addr} {cdv : Value} {A : Around} {outer : List Env} {s : Shared} {H : Hp} {E : XK} (cm2_Ratio : CalM P w K mg base (L2.CX P w) 3 "Ratio" C_Ratio ["self", "numerator", "denominator"] (spRInitX K C_Ratio C_InvalidNumber) []) (g_RainError : mg "RainError" = some (.ref C_RainError)) (ec_InvalidNumber : ExcC K C_InvalidNumber) (m_isinstance : mg "isinstance" = none) (xf_InvalidNumber : XfC K C_InvalidNumber) (no_InvalidNumber_value : PySem.W.findIn K (.ref C_InvalidNumber) "value" = some none) (cuc_repr : CalUC P w K mg base 1 C_Ratio "__repr__" (spRRepr K C_Ratio)) (m_repr : mg "repr" = none) (g_InvalidNumber : mg "InvalidNumber" = some (.ref C_InvalidNumber)) (hgd : A.guards = some [])
    (hr : Room 5 (A.deeper (envOfC "_law_said" (defScope s__law_said) s.heap.objs.size f cdv))) :
    PSs (cxOf CX P w K mg base ["_law_top", "_law_bottom", "e"] "_law_said" (defScope s__law_said) f cdv A outer s H E) (defBody s__law_said) (t__law_said K C_Ratio C_InvalidNumber C_RainError) :=
  (pss_cons (ps_try_as (tb := fun W => (tDrop (tMakeX C_Ratio (spRInitX K C_Ratio C_InvalidNumber) [] (WE W) (tCons (tVar 0) (tCons (tVar 1) tNil))))) (ts := fun xa xcls xd => (tRet (tLst (tCons (tCB (cReprA K C_Ratio (spRRepr K C_Ratio)) (tCons (tXf xa xcls xd C_InvalidNumber "value" (tVar 2)) tNil)) (tCons (tCB (rIsD K C_InvalidNumber xa xcls xd) (tCons (tVar 2) (tCons (tC (.ref C_RainError)) tNil))) tNil))))) (Wout := fun _ _ _ _ => False) rfl rfl sc__law_said.nd (i := 2) rfl rfl ⟨by rfl, by decide, .inl g_InvalidNumber⟩ takesF (fun W pn xe tk hpo => (pss_one (ps_expr (pe_calmX cm2_Ratio (hr.mono (by decide)) (by rfl) (passAt tk) (pa_cons (pv 0) (pa_cons (pv 1) pa_nil)))))) (fun xa oe xcls xd pn hz hfv => (pss_one (ps_ret (pe_lst (pa_cons (pe_callB (call_reprA cuc_repr hgd (roomH_any (hr.mono (by decide)))) (by rfl) m_repr (by decide +kernel) (pa_cons (pe_xf xf_InvalidNumber no_InvalidNumber_value hz hfv (pv 2)) pa_nil)) (pa_cons (pe_callB (call_isD ec_InvalidNumber hz hfv) (by rfl) m_isinstance (by decide +kernel) (pa_cons (pv 2) (pa_cons (pe_glob rfl g_RainError rfl) pa_nil))) pa_nil)))))))
    (pss_one (ps_ret pe_str)))
theorem ok__law_said {P : Program} {w : World} {K : PySem.W.Frag} {mg : Str → Option Value} {base : Heap} {C_Ratio : Addr} {C_InvalidNumber : Addr} {C_RainError : Addr} {f : Addr} {fd : FuncData} (F : FunD K "_law_said" "_law_said" (defArgs s__law_said) (defBody s__law_said) (defScope s__law_said) [] [] f fd) (cm2_Ratio : CalM P w K mg base (L2.CX P w) 3 "Ratio" C_Ratio ["self", "numerator", "denominator"] (spRInitX K C_Ratio C_InvalidNumber) []) (g_RainError : mg "RainError" = some (.ref C_RainError)) (ec_InvalidNumber : ExcC K C_InvalidNumber) (m_isinstance : mg "isinstance" = none) (xf_InvalidNumber : XfC K C_InvalidNumber) (no_InvalidNumber_value : PySem.W.findIn K (.ref C_InvalidNumber) "value" = some none) (cuc_repr : CalUC P w K mg base 1 C_Ratio "__repr__" (spRRepr K C_Ratio)) (m_repr : mg "repr" = none) (g_InvalidNumber : mg "InvalidNumber" = some (.ref C_InvalidNumber)) : FnOkG P w K mg base CX0 6 f fd ["_law_top", "_law_bottom"] (spSaid K C_Ratio C_InvalidNumber C_RainError) :=
  Rv.FunD.okG F sc__law_said (fun vs H Q E h => by first | (obtain ⟨_, rfl, _⟩ := h; rfl) | (obtain ⟨_, _, rfl, _⟩ := h; rfl) | (obtain ⟨_, _, _, rfl, _⟩ := h; rfl) | (obtain ⟨_, _, _, _, rfl, _⟩ := h; rfl) | (obtain ⟨_, _, _, _, _, rfl, _⟩ := h; rfl) | (obtain ⟨_, _, _, _, _, _, rfl, _⟩ := h; rfl) | (obtain ⟨_, _, _, _, _, _, _, rfl, _⟩ := h; rfl) | (obtain ⟨_, _, _, _, _, _, _, _, rfl, _⟩ := h; rfl) | (obtain ⟨_, _, _, _, _, _, _, _, _, rfl, _⟩ := h; rfl) | (obtain ⟨_, _, _, _, _, _, _, _, _, _, rfl, _⟩ := h; rfl) | (obtain ⟨_, _, _, _, _, _, _, _, _, _, _, rfl, _⟩ := h; rfl) | (obtain ⟨_, _, _, _, _, _, _, _, _, _, _, _, rfl, _⟩ := h; rfl) | (obtain ⟨_, _, _, _, _, _, _, _, _, _, _, _, _, rfl, _⟩ := h; rfl) | (obtain ⟨_, _, _, _, _, _, _, _, _, _, _, _, _, _, rfl, _⟩ := h; rfl) | (obtain ⟨_, _, _, _, _, _, _, _, _, _, _, _, _, _, _, rfl, _⟩ := h; rfl) | (obtain ⟨_, _, _, _, _, _, _, _, _, _, _, _, _, _, _, _, rfl, _⟩ := h; rfl) | (obtain ⟨_, _, _, _, _, _, _, _, _, _, _, _, _, _, _, _, _, rfl, _⟩ := h; rfl) | (obtain ⟨_, _, _, _, _, _, _, _, _, _, _, _, _, _, _, _, _, _, rfl, _⟩ := h; rfl) | (obtain ⟨_, _, _, _, _, _, _, _, _, _, _, _, _, _, _, _, _, _, _, rfl, _⟩ := h; rfl) | (obtain ⟨_, _, _, _, _, _, _, _, _, _, _, _, _, _, _, _, _, _, _, _, rfl, _⟩ := h; rfl) | (obtain ⟨_, _, _, _, _, _, _, _, _, _, _, _, _, _, _, _, _, _, _, _, _, rfl, _⟩ := h; rfl) | (obtain ⟨_, _, _, _, _, _, _, _, _, _, _, _, _, _, _, _, _, _, _, _, _, _, rfl, _⟩ := h; rfl) | (obtain ⟨_, _, _, _, _, _, _, _, _, _, _, _, _, _, _, _, _, _, _, _, _, _, _, rfl, _⟩ := h; rfl) | (obtain ⟨_, _, _, _, _, _, _, _, _, _, _, _, _, _, _, _, _, _, _, _, _, _, _, _, rfl, _⟩ := h; rfl) | (obtain ⟨_, _, _, _, _, _, _, _, _, _, _, _, _, _, _, _, _, _, _, _, _, _, _, _, _, rfl, _⟩ := h; rfl)) (fun cdv A outer s H vs Q E hgd hr h => ⟨_, d__law_said cm2_Ratio g_RainError ec_InvalidNumber m_isinstance xf_InvalidNumber no_InvalidNumber_value cuc_repr m_repr g_InvalidNumber hgd hr, p_said h⟩)
theorem sc__law_divisor : FnScope ["_law_one", "_law_other"] ["_law_one", "_law_other"] (defScope s__law_divisor) := ⟨rfl, rfl, rfl, by decide +kernel, rfl, by decide +kernel, by decide +kernel⟩
theorem d__law_divisor {P : Program} {w : World} {K : PySem.W.Frag} {mg : Str → Option Value} {base : Heap} {CX : CXT} {f : Addr} {cdv : Value} {A : Around} {outer : List Env} {s : Shared} {H : Hp} {E : XK} 
    (hr : Room 0 (A.deeper (envOfC "_law_divisor" (defScope s__law_divisor) s.heap.objs.size f cdv))) :
    PSs (cxOf CX P w K mg base ["_law_one", "_law_other"] "_law_divisor" (defScope s__law_divisor) f cdv A outer s H E) (defBody s__law_divisor) (t__law_divisor K) :=
  (pss_cons (ps_while (passes_of rfl) (pt_cmpR op_ne (pv 1) pe_int (nomark _)) (pss_one (ps_par (by rfl) sc__law_divisor.nd rfl rfl (by decide) rfl rfl (pa_cons (pv 1) (pa_cons (pe_op op_mod (pv 0) (pv 1)) pa_nil)) (by rfl))))
    (pss_one (ps_ret (pv 0))))
theorem ok__law_divisor {P : Program} {w : World} {K : PySem.W.Frag} {mg : Str → Option Value} {base : Heap} {f : Addr} {fd : FuncData} (F : FunD K "_law_divisor" "_law_divisor" (defArgs s__law_divisor) (defBody s__law_divisor) (defScope s__law_divisor) [] [] f fd)  : FnOk P w K mg base CX0 1 f fd ["_law_one", "_law_other"] (spGcd K) :=
  F.ok sc__law_divisor (fun vs H Q E h => by first | (obtain ⟨_, rfl, _⟩ := h; rfl) | (obtain ⟨_, _, rfl, _⟩ := h; rfl) | (obtain ⟨_, _, _, rfl, _⟩ := h; rfl) | (obtain ⟨_, _, _, _, rfl, _⟩ := h; rfl) | (obtain ⟨_, _, _, _, _, rfl, _⟩ := h; rfl) | (obtain ⟨_, _, _, _, _, _, rfl, _⟩ := h; rfl) | (obtain ⟨_, _, _, _, _, _, _, rfl, _⟩ := h; rfl) | (obtain ⟨_, _, _, _, _, _, _, _, rfl, _⟩ := h; rfl) | (obtain ⟨_, _, _, _, _, _, _, _, _, rfl, _⟩ := h; rfl) | (obtain ⟨_, _, _, _, _, _, _, _, _, _, rfl, _⟩ := h; rfl) | (obtain ⟨_, _, _, _, _, _, _, _, _, _, _, rfl, _⟩ := h; rfl) | (obtain ⟨_, _, _, _, _, _, _, _, _, _, _, _, rfl, _⟩ := h; rfl) | (obtain ⟨_, _, _, _, _, _, _, _, _, _, _, _, _, rfl, _⟩ := h; rfl) | (obtain ⟨_, _, _, _, _, _, _, _, _, _, _, _, _, _, rfl, _⟩ := h; rfl) | (obtain ⟨_, _, _, _, _, _, _, _, _, _, _, _, _, _, _, rfl, _⟩ := h; rfl) | (obtain ⟨_, _, _, _, _, _, _, _, _, _, _, _, _, _, _, _, rfl, _⟩ := h; rfl) | (obtain ⟨_, _, _, _, _, _, _, _, _, _, _, _, _, _, _, _, _, rfl, _⟩ := h; rfl) | (obtain ⟨_, _, _, _, _, _, _, _, _, _, _, _, _, _, _, _, _, _, rfl, _⟩ := h; rfl) | (obtain ⟨_, _, _, _, _, _, _, _, _, _, _, _, _, _, _, _, _, _, _, rfl, _⟩ := h; rfl) | (obtain ⟨_, _, _, _, _, _, _, _, _, _, _, _, _, _, _, _, _, _, _, _, rfl, _⟩ := h; rfl) | (obtain ⟨_, _, _, _, _, _, _, _, _, _, _, _, _, _, _, _, _, _, _, _, _, rfl, _⟩ := h; rfl) | (obtain ⟨_, _, _, _, _, _, _, _, _, _, _, _, _, _, _, _, _, _, _, _, _, _, rfl, _⟩ := h; rfl) | (obtain ⟨_, _, _, _, _, _, _, _, _, _, _, _, _, _, _, _, _, _, _, _, _, _, _, rfl, _⟩ := h; rfl) | (obtain ⟨_, _, _, _, _, _, _, _, _, _, _, _, _, _, _, _, _, _, _, _, _, _, _, _, rfl, _⟩ := h; rfl) | (obtain ⟨_, _, _, _, _, _, _, _, _, _, _, _, _, _, _, _, _, _, _, _, _, _, _, _, _, rfl, _⟩ := h; rfl)) (fun cdv A outer s H vs Q E hr h => ⟨_, d__law_divisor  hr, p_gcd01 h⟩)
theorem sc__law_right : FnScope ["_law_top", "_law_bottom", "_law_ratio", "_law_divisor_here", "_law_one", "_law_other", "_law_opposite", "_law_size", "_law_low"] ["_law_top", "_law_bottom"] (defScope s__law_right) := ⟨rfl, rfl, rfl, by decide +kernel, rfl, by decide +kernel, by decide +kernel⟩
theorem d__law_right {P : Program} {w : World} {K : PySem.W.Frag} {mg : Str → Option Value} {base : Heap} {C_Ratio : Addr} {C_InvalidNumber : Addr} {CX : CXT} {f : Addr} {cdv : Value} {A : Around} {outer : List Env} {s : Shared} {H : Hp} {E : XK} (cm2_Ratio : CalM P w K mg base (L2.CX P w) 3 "Ratio" C_Ratio ["self", "numerator", "denominator"] (spRInitX K C_Ratio C_InvalidNumber) []) (m_abs : mg "abs" = none) (c__law_divisor : Cal P w K mg base CX0 1 "_law_divisor" ["_law_one", "_law_other"] (spGcd K)) (m_int : mg "int" = none) (cp_bottom : CalP P w K mg base CX0 1 C_Ratio "bottom" (getSp C_Ratio "reduced_bottom")) (cp_top : CalP P w K mg base CX0 1 C_Ratio "top" (getSp C_Ratio "reduced_top")) (cuc_repr : CalUC P w K mg base 1 C_Ratio "__repr__" (spRRepr K C_Ratio)) (m_repr : mg "repr" = none) (m_str : mg "str" = none) (cs_str : CalS P w K mg base CX0 1 C_Ratio "__str__" (spStrR K C_Ratio)) (cs_bool : CalS P w K mg base CX0 1 C_Ratio "__bool__" (spBoolR K C_Ratio)) (m_bool : mg "bool" = none) (cs_abs : CalS P w K mg base CX0 5 C_Ratio "__abs__" (spAbsR K C_Ratio C_InvalidNumber)) (cs_neg : CalS P w K mg base CX0 5 C_Ratio "__neg__" (spNegR K C_Ratio C_InvalidNumber)) (ct_floor : CalT P w K mg base CX0 1 C_Ratio "floor" ["self"] (spFloor K C_Ratio)) (m_isinstance : mg "isinstance" = none) (hgd : A.guards = some [])
    (hr : Room 6 (A.deeper (envOfC "_law_right" (defScope s__law_right) s.heap.objs.size f cdv))) :
    PSs (cxOf CX P w K mg base ["_law_top", "_law_bottom", "_law_ratio", "_law_divisor_here", "_law_one", "_law_other", "_law_opposite", "_law_size", "_law_low"] "_law_right" (defScope s__law_right) f cdv A outer s H E) (defBody s__law_right) (t__law_right01 K C_Ratio C_InvalidNumber) :=
  (pss_cons (ps_set (i := 2) sc__law_right.nd rfl (by first | exact Or.inl rfl | exact Or.inr rfl) (pe_calm cm2_Ratio (hr.mono (by decide)) (by rfl) passE0 (pa_cons (pv 0) (pa_cons (pv 1) pa_nil))))
    (pss_cons (ps_set (i := 3) sc__law_right.nd rfl (by first | exact Or.inl rfl | exact Or.inr rfl) (pe_op op_mulW (pe_cal c__law_divisor (hr.mono (by decide)) rfl pass0 (pa_cons (pe_callB call_abs (by rfl) m_abs (by decide +kernel) (pa_cons (pv 0) pa_nil)) (pa_cons (pe_callB call_abs (by rfl) m_abs (by decide +kernel) (pa_cons (pv 1) pa_nil)) pa_nil))) (pe_ix ix_list (pe_lst (pa_cons pe_int (pa_cons (pe_un un_neg pe_int) pa_nil))) (pe_callTy call_int1 (by rfl) m_int (by decide +kernel) (pa_cons (pe_cmpR op_lt (pv 1) pe_int (nomark _)) pa_nil)) (fun _ _ => rfl))))
    (pss_cons (ps_par (by rfl) sc__law_right.nd rfl rfl (by decide) rfl rfl (pa_cons (pe_op op_fdivZ (pv 0) (pv 3)) (pa_cons (pe_op op_fdivZ (pv 1) (pv 3)) pa_nil)) (by rfl))
    (pss_cons (ps_if (pt_cmpR (op_neD hr.units) (pe_lst (pa_cons (pe_calp cp_top (hr.mono (by decide)) pass0 (pv 2) rfl) (pa_cons (pe_calp cp_bottom (hr.mono (by decide)) pass0 (pv 2) rfl) pa_nil))) (pe_lst (pa_cons (pv 4) (pa_cons (pv 5) pa_nil))) (nomark _)) (pss_one (ps_ret pe_bl)) pss_nil)
    (pss_cons (ps_if (pt_cmpR op_ne (pe_callB (call_reprA cuc_repr hgd (roomH_any (hr.mono (by decide)))) (by rfl) m_repr (by decide +kernel) (pa_cons (pv 2) pa_nil)) (pe_op op_add_str (pe_op op_add_str (pe_op op_add_str (pe_op op_add_str pe_str (pe_callTy call_str_int (by rfl) m_str (by decide +kernel) (pa_cons (pv 4) pa_nil))) pe_str) (pe_callTy call_str_int (by rfl) m_str (by decide +kernel) (pa_cons (pv 5) pa_nil))) pe_str) (nomark _)) (pss_one (ps_ret pe_bl)) pss_nil)
    (pss_cons (ps_if (pt_cmpR op_ne (pe_callTy (call_ownS cs_str (hr.mono (by decide)) pass0) (by rfl) m_str (by decide +kernel) (pa_cons (pv 2) pa_nil)) (pe_ifExp (pt_cmpR op_eq (pv 5) pe_int (nomark _)) (pe_callTy call_str_int (by rfl) m_str (by decide +kernel) (pa_cons (pv 4) pa_nil)) (pe_op op_add_str (pe_op op_add_str (pe_callTy call_str_int (by rfl) m_str (by decide +kernel) (pa_cons (pv 4) pa_nil)) pe_str) (pe_callTy call_str_int (by rfl) m_str (by decide +kernel) (pa_cons (pv 5) pa_nil)))) (nomark _)) (pss_one (ps_ret pe_bl)) pss_nil)
    (pss_cons (ps_if (pt_cmpR op_ne (pe_callTy (call_ownB cs_bool (hr.mono (by decide)) pass0) (by rfl) m_bool (by decide +kernel) (pa_cons (pv 2) pa_nil)) (pe_cmpR op_ne (pv 0) pe_int (nomark _)) (nomark _)) (pss_one (ps_ret pe_bl)) pss_nil)
    (pss_cons (ps_par (by rfl) sc__law_right.nd rfl rfl (by decide) rfl rfl (pa_cons (pe_un (un_ownN cs_neg (hr.mono (by decide)) pass0) (pv 2)) (pa_cons (pe_callB (call_ownA cs_abs (hr.mono (by decide)) pass0) (by rfl) m_abs (by decide +kernel) (pa_cons (pv 2) pa_nil)) pa_nil)) (by rfl))
    (pss_cons (ps_if (pt_cmpR (op_neD hr.units) (pe_lst (pa_cons (pe_calp cp_top (hr.mono (by decide)) pass0 (pv 6) rfl) (pa_cons (pe_calp cp_bottom (hr.mono (by decide)) pass0 (pv 6) rfl) pa_nil))) (pe_lst (pa_cons (pe_op op_sub pe_int (pv 4)) (pa_cons (pv 5) pa_nil))) (nomark _)) (pss_one (ps_ret pe_bl)) pss_nil)
    (pss_cons (ps_if (pt_cmpR (op_neD hr.units) (pe_lst (pa_cons (pe_calp cp_top (hr.mono (by decide)) pass0 (pv 7) rfl) (pa_cons (pe_calp cp_bottom (hr.mono (by decide)) pass0 (pv 7) rfl) pa_nil))) (pe_lst (pa_cons (pe_callB call_abs (by rfl) m_abs (by decide +kernel) (pa_cons (pv 4) pa_nil)) (pa_cons (pv 5) pa_nil))) (nomark _)) (pss_one (ps_ret pe_bl)) pss_nil)
    (pss_cons (ps_set (i := 8) sc__law_right.nd rfl (by first | exact Or.inl rfl | exact Or.inr rfl) (pe_calt0 ct_floor (hr.mono (by decide)) pass0 (pv 2)))
    (pss_one (ps_ret (pe_and (pe_callB call_isi (by rfl) m_isinstance (by decide +kernel) (pa_cons (pv 8) (pa_cons (pe_bltn (by rfl) m_int (by decide +kernel) rfl) pa_nil))) (pe_one (pe_chain op_le op_lt (pe_op op_mulW (pv 8) (pv 5)) (pv 4) (pe_op op_mulW (pe_op op_add (pv 8) pe_int) (pv 5))))))))))))))))))
theorem ok__law_right {P : Program} {w : World} {K : PySem.W.Frag} {mg : Str → Option Value} {base : Heap} {C_Ratio : Addr} {C_InvalidNumber : Addr} {f : Addr} {fd : FuncData} (F : FunD K "_law_right" "_law_right" (defArgs s__law_right) (defBody s__law_right) (defScope s__law_right) [] [] f fd) (cm2_Ratio : CalM P w K mg base (L2.CX P w) 3 "Ratio" C_Ratio ["self", "numerator", "denominator"] (spRInitX K C_Ratio C_InvalidNumber) []) (m_abs : mg "abs" = none) (c__law_divisor : Cal P w K mg base CX0 1 "_law_divisor" ["_law_one", "_law_other"] (spGcd K)) (m_int : mg "int" = none) (cp_bottom : CalP P w K mg base CX0 1 C_Ratio "bottom" (getSp C_Ratio "reduced_bottom")) (cp_top : CalP P w K mg base CX0 1 C_Ratio "top" (getSp C_Ratio "reduced_top")) (cuc_repr : CalUC P w K mg base 1 C_Ratio "__repr__" (spRRepr K C_Ratio)) (m_repr : mg "repr" = none) (m_str : mg "str" = none) (cs_str : CalS P w K mg base CX0 1 C_Ratio "__str__" (spStrR K C_Ratio)) (cs_bool : CalS P w K mg base CX0 1 C_Ratio "__bool__" (spBoolR K C_Ratio)) (m_bool : mg "bool" = none) (cs_abs : CalS P w K mg base CX0 5 C_Ratio "__abs__" (spAbsR K C_Ratio C_InvalidNumber)) (cs_neg : CalS P w K mg base CX0 5 C_Ratio "__neg__" (spNegR K C_Ratio C_InvalidNumber)) (ct_floor : CalT P w K mg base CX0 1 C_Ratio "floor" ["self"] (spFloor K C_Ratio)) (m_isinstance : mg "isinstance" = none) : FnOkG P w K mg base CX0 7 f fd ["_law_top", "_law_bottom"] (spRight01 K C_Ratio C_InvalidNumber) :=
  Rv.FunD.okG F sc__law_right (fun vs H Q E h => by first | (obtain ⟨_, rfl, _⟩ := h; rfl) | (obtain ⟨_, _, rfl, _⟩ := h; rfl) | (obtain ⟨_, _, _, rfl, _⟩ := h; rfl) | (obtain ⟨_, _, _, _, rfl, _⟩ := h; rfl) | (obtain ⟨_, _, _, _, _, rfl, _⟩ := h; rfl) | (obtain ⟨_, _, _, _, _, _, rfl, _⟩ := h; rfl) | (obtain ⟨_, _, _, _, _, _, _, rfl, _⟩ := h; rfl) | (obtain ⟨_, _, _, _, _, _, _, _, rfl, _⟩ := h; rfl) | (obtain ⟨_, _, _, _, _, _, _, _, _, rfl, _⟩ := h; rfl) | (obtain ⟨_, _, _, _, _, _, _, _, _, _, rfl, _⟩ := h; rfl) | (obtain ⟨_, _, _, _, _, _, _, _, _, _, _, rfl, _⟩ := h; rfl) | (obtain ⟨_, _, _, _, _, _, _, _, _, _, _, _, rfl, _⟩ := h; rfl) | (obtain ⟨_, _, _, _, _, _, _, _, _, _, _, _, _, rfl, _⟩ := h; rfl) | (obtain ⟨_, _, _, _, _, _, _, _, _, _, _, _, _, _, rfl, _⟩ := h; rfl) | (obtain ⟨_, _, _, _, _, _, _, _, _, _, _, _, _, _, _, rfl, _⟩ := h; rfl) | (obtain ⟨_, _, _, _, _, _, _, _, _, _, _, _, _, _, _, _, rfl, _⟩ := h; rfl) | (obtain ⟨_, _, _, _, _, _, _, _, _, _, _, _, _, _, _, _, _, rfl, _⟩ := h; rfl) | (obtain ⟨_, _, _, _, _, _, _, _, _, _, _, _, _, _, _, _, _, _, rfl, _⟩ := h; rfl) | (obtain ⟨_, _, _, _, _, _, _, _, _, _, _, _, _, _, _, _, _, _, _, rfl, _⟩ := h; rfl) | (obtain ⟨_, _, _, _, _, _, _, _, _, _, _, _, _, _, _, _, _, _, _, _, rfl, _⟩ := h; rfl) | (obtain ⟨_, _, _, _, _, _, _, _, _, _, _, _, _, _, _, _, _, _, _, _, _, rfl, _⟩ := h; rfl) | (obtain ⟨_, _, _, _, _, _, _, _, _, _, _, _, _, _, _, _, _, _, _, _, _, _, rfl, _⟩ := h; rfl) | (obtain ⟨_, _, _, _, _, _, _, _, _, _, _, _, _, _, _, _, _, _, _, _, _, _, _, rfl, _⟩ := h; rfl) | (obtain ⟨_, _, _, _, _, _, _, _, _, _, _, _, _, _, _, _, _, _, _, _, _, _, _, _, rfl, _⟩ := h; rfl) | (obtain ⟨_, _, _, _, _, _, _, _, _, _, _, _, _, _, _, _, _, _, _, _, _, _, _, _, _, rfl, _⟩ := h; rfl)) (fun cdv A outer s H vs Q E hgd hr h => ⟨_, d__law_right cm2_Ratio m_abs c__law_divisor m_int cp_bottom cp_top cuc_repr m_repr m_str cs_str cs_bool m_bool cs_abs cs_neg ct_floor m_isinstance hgd hr, p_right01 h⟩)
theorem sc_law : FnScope ["_law_script", "_law_odd", "_law_k", "_law_pool_here", "_law_top", "_law_bottom", "_law_factor", "_law_pairs", "_law_one", "_law_other"] ["_law_script"] (defScope s_law) := ⟨rfl, rfl, rfl, by decide +kernel, rfl, by decide +kernel, by decide +kernel⟩
theorem d_law {P : Program} {w : World} {K : PySem.W.Frag} {mg : Str → Option Value} {base : Heap} {C_Ratio : Addr} {C_InvalidNumber : Addr} {C_RainError : Addr} {CX : CXT} {f : Addr} {cdv : Value} {A : Around} {outer : List Env} {s : Shared} {H : Hp} {E : XK} (cm1_Ratio : CalM P w K mg base (L2.CX P w) 3 "Ratio" C_Ratio ["self", "numerator", "denominator"] (spRInitX K C_Ratio C_InvalidNumber) [.int 1]) (c__law_said : CalG P w K mg base CX0 6 "_law_said" ["_law_top", "_law_bottom"] (spSaid K C_Ratio C_InvalidNumber C_RainError)) (cuc_repr : CalUC P w K mg base 1 C_Ratio "__repr__" (spRRepr K C_Ratio)) (m_repr : mg "repr" = none) (cm2_Ratio : CalM P w K mg base (L2.CX P w) 3 "Ratio" C_Ratio ["self", "numerator", "denominator"] (spRInitX K C_Ratio C_InvalidNumber) []) (m_len : mg "len" = none) (m_min : mg "min" = none) (m_max : mg "max" = none) (m_range : mg "range" = none) (c__law_pool : Cal P w K mg base CX0 1 "_law_pool" ["_law_script", "_law_k"] (RvM.spPool K)) (c__law_whole : Cal P w K mg base CX0 2 "_law_whole" ["_law_pool_here"] (spLWhole01 K)) (c__law_take : Cal P w K mg base CX0 1 "_law_take" ["_law_pool_here", "_law_many"] (RvM.spTake K)) (c__law_right : CalG P w K mg base CX0 7 "_law_right" ["_law_top", "_law_bottom"] (spRight01 K C_Ratio C_InvalidNumber)) (ck_Ratio_denominator_numerator : CalMK P w K mg base (L2.CX P w) 3 "Ratio" C_Ratio ["self", "numerator", "denominator"] (spRInitX K C_Ratio C_InvalidNumber) ["denominator", "numerator"] (fun vs zs => vs ++ pick [1, 0] zs)) (hgd : A.guards = some [])
    (hr : Room 7 (A.deeper (envOfC "law" (defScope s_law) s.heap.objs.size f cdv))) :
    PSs (cxOf CX P w K mg base ["_law_script", "_law_odd", "_law_k", "_law_pool_here", "_law_top", "_law_bottom", "_law_factor", "_law_pairs", "_law_one", "_law_other"] "law" (defScope s_law) f cdv A outer s H E) (defBody s_law) (t_law01 K C_Ratio C_InvalidNumber C_RainError) :=
  (pss_cons (ps_for (passes_of rfl) rfl (pi_list (pe_lst (pa_cons pe_non (pa_cons pe_bl (pa_cons pe_bl (pa_cons pe_str (pa_cons (pe_tup (pa_cons pe_int pa_nil)) (pa_cons (pe_lst (pa_cons pe_int pa_nil)) (pa_cons (pe_calm cm1_Ratio (hr.mono (by decide)) (by rfl) passE0 (pa_cons pe_int pa_nil)) pa_nil))))))))) (pg_name (i := 1) sc_law.nd rfl (by first | exact Or.inl rfl | exact Or.inr rfl)) (pss_one (ps_if (PW.pt (pw_or (pt_cmpR (op_neD hr.units) (pe_calG c__law_said hgd (hr.mono (by decide)) rfl pass0 (pa_cons (pv 1) (pa_cons pe_int pa_nil))) (pe_lst (pa_cons (pe_callB (call_reprA cuc_repr hgd (roomH_any (hr.mono (by decide)))) (by rfl) m_repr (by decide +kernel) (pa_cons (pv 1) pa_nil)) (pa_cons pe_bl pa_nil))) (nomark _)) (pw_or1 (pt_cmpR (op_neD hr.units) (pe_calG c__law_said hgd (hr.mono (by decide)) rfl pass0 (pa_cons pe_int (pa_cons (pv 1) pa_nil))) (pe_lst (pa_cons (pe_callB (call_reprA cuc_repr hgd (roomH_any (hr.mono (by decide)))) (by rfl) m_repr (by decide +kernel) (pa_cons (pv 1) pa_nil)) (pa_cons pe_bl pa_nil))) (nomark _))))) (pss_one (ps_ret pe_bl)) pss_nil)))
    (pss_cons (ps_if (PW.pt (pw_or (pt_cmpR (op_neD hr.units) (pe_calG c__law_said hgd (hr.mono (by decide)) rfl pass0 (pa_cons pe_int (pa_cons pe_int pa_nil))) (pe_lst (pa_cons pe_str (pa_cons pe_bl pa_nil))) (nomark _)) (pw_or1 (pt_cmpR op_ne (pe_calG c__law_said hgd (hr.mono (by decide)) rfl pass0 (pa_cons pe_int (pa_cons (pe_un un_neg pe_int) pa_nil))) pe_str (nomark _))))) (pss_one (ps_ret pe_bl)) pss_nil)
    (pss_cons (ps_if (pt_cmpR op_ne (pe_callB (call_reprA cuc_repr hgd (roomH_any (hr.mono (by decide)))) (by rfl) m_repr (by decide +kernel) (pa_cons (pe_calm cm2_Ratio (hr.mono (by decide)) (by rfl) passE0 (pa_cons pe_int (pa_cons (pe_un un_neg pe_int) pa_nil))) pa_nil)) pe_str (nomark _)) (pss_one (ps_ret pe_bl)) pss_nil)
    (pss_cons (ps_for (passes_of rfl) rfl (pi_range1 rfl m_range (pa_cons (pe_callB (call_max2 rfl) (by rfl) m_max (by decide +kernel) (pa_cons pe_int (pa_cons (pe_callB (call_min2 rfl) (by rfl) m_min (by decide +kernel) (pa_cons pe_int (pa_cons (pe_callB call_len_seq (by rfl) m_len (by decide +kernel) (pa_cons (pv 0) pa_nil)) pa_nil))) pa_nil))) pa_nil)) (pg_name (i := 2) sc_law.nd rfl (by first | exact Or.inl rfl | exact Or.inr rfl)) (pss_cons (ps_set (i := 3) sc_law.nd rfl (by first | exact Or.inl rfl | exact Or.inr rfl) (pe_cal c__law_pool (hr.mono (by decide)) rfl pass0 (pa_cons (pv 0) (pa_cons (pv 2) pa_nil))))
    (pss_cons (ps_par (by rfl) sc_law.nd rfl rfl (by decide) rfl rfl (pa_cons (pe_cal c__law_whole (hr.mono (by decide)) rfl pass0 (pa_cons (pv 3) pa_nil)) (pa_cons (pe_cal c__law_whole (hr.mono (by decide)) rfl pass0 (pa_cons (pv 3) pa_nil)) pa_nil)) (by rfl))
    (pss_cons (ps_set (i := 6) sc_law.nd rfl (by first | exact Or.inl rfl | exact Or.inr rfl) (pe_op op_add pe_int (pe_cal c__law_take (hr.mono (by decide)) rfl pass0 (pa_cons (pv 3) (pa_cons pe_int pa_nil)))))
    (pss_cons (ps_set (i := 7) sc_law.nd rfl (by first | exact Or.inl rfl | exact Or.inr rfl) (pe_lst (pa_cons (pe_tup (pa_cons (pv 4) (pa_cons (pv 5) pa_nil))) (pa_cons (pe_tup (pa_cons (pv 6) (pa_cons (pv 4) pa_nil))) (pa_cons (pe_tup (pa_cons (pv 4) (pa_cons pe_int pa_nil))) pa_nil)))))
    (pss_one (ps_for (passes_of rfl) rfl (pi_list (pe_op op_cat (pv 7) (pe_lst (pa_cons (pe_tup (pa_cons (pe_op op_mulW (pv 4) (pv 6)) (pa_cons (pe_op op_mulW (pv 5) (pv 6)) pa_nil))) pa_nil)))) (pg_tup (by rfl) (pgs_cons (pg_name (i := 8) sc_law.nd rfl (by first | exact Or.inl rfl | exact Or.inr rfl)) (pgs_cons (pg_name (i := 9) sc_law.nd rfl (by first | exact Or.inl rfl | exact Or.inr rfl)) pgs_nil))) (pss_one (ps_if (PW.pt (pw_and (pt_cmpR op_ne (pv 9) pe_int (nomark _)) (pw_and1 (pt_not (pt_val (pe_calG c__law_right hgd (hr.mono (by decide)) rfl pass0 (pa_cons (pv 8) (pa_cons (pv 9) pa_nil)))))))) (pss_one (ps_ret pe_bl)) pss_nil)))))))))
    (pss_one (ps_ret (pe_and (pe_cmpR op_eq (pe_callB (call_reprA cuc_repr hgd (roomH_any (hr.mono (by decide)))) (by rfl) m_repr (by decide +kernel) (pa_cons (pe_calmk ck_Ratio_denominator_numerator (hr.mono (by decide)) (by rfl) passE0 (pk_cons pe_int (pk_cons pe_int pk_nil))) pa_nil)) pe_str (nomark _)) (pe_one (pe_cmpR op_eq (pe_callB (call_reprA cuc_repr hgd (roomH_any (hr.mono (by decide)))) (by rfl) m_repr (by decide +kernel) (pa_cons (pe_calm cm1_Ratio (hr.mono (by decide)) (by rfl) passE0 (pa_cons pe_int pa_nil)) pa_nil)) pe_str (nomark _))))))))))
theorem ok_law {P : Program} {w : World} {K : PySem.W.Frag} {mg : Str → Option Value} {base : Heap} {C_Ratio : Addr} {C_InvalidNumber : Addr} {C_RainError : Addr} {f : Addr} {fd : FuncData} (F : FunD K "law" "law" (defArgs s_law) (defBody s_law) (defScope s_law) [] [] f fd) (cm1_Ratio : CalM P w K mg base (L2.CX P w) 3 "Ratio" C_Ratio ["self", "numerator", "denominator"] (spRInitX K C_Ratio C_InvalidNumber) [.int 1]) (c__law_said : CalG P w K mg base CX0 6 "_law_said" ["_law_top", "_law_bottom"] (spSaid K C_Ratio C_InvalidNumber C_RainError)) (cuc_repr : CalUC P w K mg base 1 C_Ratio "__repr__" (spRRepr K C_Ratio)) (m_repr : mg "repr" = none) (cm2_Ratio : CalM P w K mg base (L2.CX P w) 3 "Ratio" C_Ratio ["self", "numerator", "denominator"] (spRInitX K C_Ratio C_InvalidNumber) []) (m_len : mg "len" = none) (m_min : mg "min" = none) (m_max : mg "max" = none) (m_range : mg "range" = none) (c__law_pool : Cal P w K mg base CX0 1 "_law_pool" ["_law_script", "_law_k"] (RvM.spPool K)) (c__law_whole : Cal P w K mg base CX0 2 "_law_whole" ["_law_pool_here"] (spLWhole01 K)) (c__law_take : Cal P w K mg base CX0 1 "_law_take" ["_law_pool_here", "_law_many"] (RvM.spTake K)) (c__law_right : CalG P w K mg base CX0 7 "_law_right" ["_law_top", "_law_bottom"] (spRight01 K C_Ratio C_InvalidNumber)) (ck_Ratio_denominator_numerator : CalMK P w K mg base (L2.CX P w) 3 "Ratio" C_Ratio ["self", "numerator", "denominator"] (spRInitX K C_Ratio C_InvalidNumber) ["denominator", "numerator"] (fun vs zs => vs ++ pick [1, 0] zs)) : FnOkG P w K mg base CX0 8 f fd ["_law_script"] (spLaw01 K C_Ratio C_InvalidNumber C_RainError) :=
  Rv.FunD.okG F sc_law (fun vs H Q E h => by first | (obtain ⟨_, rfl, _⟩ := h; rfl) | (obtain ⟨_, _, rfl, _⟩ := h; rfl) | (obtain ⟨_, _, _, rfl, _⟩ := h; rfl) | (obtain ⟨_, _, _, _, rfl, _⟩ := h; rfl) | (obtain ⟨_, _, _, _, _, rfl, _⟩ := h; rfl) | (obtain ⟨_, _, _, _, _, _, rfl, _⟩ := h; rfl) | (obtain ⟨_, _, _, _, _, _, _, rfl, _⟩ := h; rfl) | (obtain ⟨_, _, _, _, _, _, _, _, rfl, _⟩ := h; rfl) | (obtain ⟨_, _, _, _, _, _, _, _, _, rfl, _⟩ := h; rfl) | (obtain ⟨_, _, _, _, _, _, _, _, _, _, rfl, _⟩ := h; rfl) | (obtain ⟨_, _, _, _, _, _, _, _, _, _, _, rfl, _⟩ := h; rfl) | (obtain ⟨_, _, _, _, _, _, _, _, _, _, _, _, rfl, _⟩ := h; rfl) | (obtain ⟨_, _, _, _, _, _, _, _, _, _, _, _, _, rfl, _⟩ := h; rfl) | (obtain ⟨_, _, _, _, _, _, _, _, _, _, _, _, _, _, rfl, _⟩ := h; rfl) | (obtain ⟨_, _, _, _, _, _, _, _, _, _, _, _, _, _, _, rfl, _⟩ := h; rfl) | (obtain ⟨_, _, _, _, _, _, _, _, _, _, _, _, _, _, _, _, rfl, _⟩ := h; rfl) | (obtain ⟨_, _, _, _, _, _, _, _, _, _, _, _, _, _, _, _, _, rfl, _⟩ := h; rfl) | (obtain ⟨_, _, _, _, _, _, _, _, _, _, _, _, _, _, _, _, _, _, rfl, _⟩ := h; rfl) | (obtain ⟨_, _, _, _, _, _, _, _, _, _, _, _, _, _, _, _, _, _, _, rfl, _⟩ := h; rfl) | (obtain ⟨_, _, _, _, _, _, _, _, _, _, _, _, _, _, _, _, _, _, _, _, rfl, _⟩ := h; rfl) | (obtain ⟨_, _, _, _, _, _, _, _, _, _, _, _, _, _, _, _, _, _, _, _, _, rfl, _⟩ := h; rfl) | (obtain ⟨_, _, _, _, _, _, _, _, _, _, _, _, _, _, _, _, _, _, _, _, _, _, rfl, _⟩ := h; rfl) | (obtain ⟨_, _, _, _, _, _, _, _, _, _, _, _, _, _, _, _, _, _, _, _, _, _, _, rfl, _⟩ := h; rfl) | (obtain ⟨_, _, _, _, _, _, _, _, _, _, _, _, _, _, _, _, _, _, _, _, _, _, _, _, rfl, _⟩ := h; rfl) | (obtain ⟨_, _, _, _, _, _, _, _, _, _, _, _, _, _, _, _, _, _, _, _, _, _, _, _, _, rfl, _⟩ := h; rfl)) (fun cdv A outer s H vs Q E hgd hr h => ⟨_, d_law cm1_Ratio c__law_said cuc_repr m_repr cm2_Ratio m_len m_min m_max m_range c__law_pool c__law_whole c__law_take c__law_right ck_Ratio_denominator_numerator hgd hr, p_law01 h⟩)
theorem sc_get_top : FnScope ["self"] ["self"] (defScope s_get_top) := ⟨rfl, rfl, rfl, by decide +kernel, rfl, by decide +kernel, by decide +kernel⟩
theorem ok_get_top {P : Program} {w : World} {K : PySem.W.Frag} {mg : Str → Option Value} {base : Heap} {C f : Addr} {fd : FuncData} (F : FunD K "top" "Ratio.top" (defArgs s_get_top) (defBody s_get_top) (defScope s_get_top) [] [] f fd) (c : Cls K C) (n : NoAttr K C "reduced_top") : FnOk P w K mg base CX0 1 f fd ["self"] (getSp C "reduced_top") := by
  obtain ⟨oc, od, dV, kV, doc, pm, an, cdv, ct, osl, rfl, lk, hcd, _, _⟩ := F.ex
  exact fn_getter (N := ["self"]) lk hcd sc_get_top rfl rfl c n
theorem sc_get_bottom : FnScope ["self"] ["self"] (defScope s_get_bottom) := ⟨rfl, rfl, rfl, by decide +kernel, rfl, by decide +kernel, by decide +kernel⟩
theorem ok_get_bottom {P : Program} {w : World} {K : PySem.W.Frag} {mg : Str → Option Value} {base : Heap} {C f : Addr} {fd : FuncData} (F : FunD K "bottom" "Ratio.bottom" (defArgs s_get_bottom) (defBody s_get_bottom) (defScope s_get_bottom) [] [] f fd) (c : Cls K C) (n : NoAttr K C "reduced_bottom") : FnOk P w K mg base CX0 1 f fd ["self"] (getSp C "reduced_bottom") := by
  obtain ⟨oc, od, dV, kV, doc, pm, an, cdv, ct, osl, rfl, lk, hcd, _, _⟩ := F.ex
  exact fn_getter (N := ["self"]) lk hcd sc_get_bottom rfl rfl c n
theorem exb_top {K : PySem.W.Frag} (h : exB K = true) : prB K "Ratio" "top" = true := (He.ba h).1
theorem exb_bottom {K : PySem.W.Frag} (h : exB K = true) : prB K "Ratio" "bottom" = true := (He.ba (He.ba h).2).1
theorem exb_clsR {K : PySem.W.Frag} (h : exB K = true) : clB K "Ratio" = true := (He.ba (He.ba (He.ba h).2).2).1
theorem exb_ki {K : PySem.W.Frag} (h : exB K = true) : kiB K "Ratio" = true := (He.ba (He.ba (He.ba (He.ba h).2).2).2).1
theorem exb_rki {K : PySem.W.Frag} (h : exB K = true) : decide (PySem.W.kitOne K (.ref (He.ga K "Ratio")) (.type "int") = some false) = true := (He.ba (He.ba (He.ba (He.ba (He.ba h).2).2).2).2).1
theorem exb_ox_InvalidNumber {K : PySem.W.Frag} (h : exB K = true) : oxB K "InvalidNumber" "ValueError.__new__" bm_ValueError = true := (He.ba (He.ba (He.ba (He.ba (He.ba (He.ba h).2).2).2).2).2).1
theorem exb_xf_InvalidNumber {K : PySem.W.Frag} (h : exB K = true) : xfB K (He.ga K "InvalidNumber") = true := (He.ba (He.ba (He.ba (He.ba (He.ba (He.ba (He.ba h).2).2).2).2).2).2).1
theorem exb_no_InvalidNumber {K : PySem.W.Frag} (h : exB K = true) : decide (PySem.W.findIn K (.ref (He.ga K "InvalidNumber")) "value" = some none) = true := (He.ba (He.ba (He.ba (He.ba (He.ba (He.ba (He.ba (He.ba h).2).2).2).2).2).2).2).1
theorem exb_ec_InvalidNumber {K : PySem.W.Frag} (h : exB K = true) : ecB K "InvalidNumber" = true := (He.ba (He.ba (He.ba (He.ba (He.ba (He.ba (He.ba (He.ba (He.ba h).2).2).2).2).2).2).2).2).1
theorem exb_bg_RainError {K : PySem.W.Frag} (h : exB K = true) : bgB K "RainError" "ValueError.__init__" = true := (He.ba (He.ba (He.ba (He.ba (He.ba (He.ba (He.ba (He.ba (He.ba (He.ba h).2).2).2).2).2).2).2).2).2).1
theorem exb_nx1 {K : PySem.W.Frag} (h : exB K = true) : nx1B K = true := (He.ba (He.ba (He.ba (He.ba (He.ba (He.ba (He.ba (He.ba (He.ba (He.ba h).2).2).2).2).2).2).2).2).2).2
theorem facts {P : Program} {w : World} {K : PySem.W.Frag} {h : Heap} {mg : Str → Option Value} {f : Addr} (X : K.In h) (G : h.Ns mainGlobals mg) (hfa : mg ("law" : Str) = some (.ref f)) (c : SaysR fa fn gts exB K) :
    ∃ fd : FuncData, (∀ (s : Shared) (v : Value), BindsTo s fd ⟨[v], []⟩ [("_law_script", v)]) ∧ (RCls K (He.ga K "Ratio") ∧ RKi K (He.ga K "Ratio") ∧ NX1 K (He.ga K "InvalidNumber") (He.ga K "RainError")) ∧ ∀ base : Heap, K.In base → base.Ns mainGlobals mg → FnOkG P w K mg base CX0 8 f fd ["_law_script"] (spLaw01 K (He.ga K "Ratio") (He.ga K "InvalidNumber") (He.ga K "RainError")) := by
  obtain ⟨fd0, F0⟩ := c.d.def_ 0 (d := D_InvalidNumber___init__) rfl
  obtain ⟨fd1, F1⟩ := c.d.def_ 1 (d := D_is_whole) rfl
  obtain ⟨fd2, F2⟩ := c.d.def_ 2 (d := D_common_divisor) rfl
  obtain ⟨fd3, F3⟩ := c.d.def_ 3 (d := D_Ratio___init__) rfl
  obtain ⟨fd4, F4⟩ := c.d.def_ 4 (d := D_Ratio_floor) rfl
  obtain ⟨fd5, F5⟩ := c.d.def_ 5 (d := D_Ratio___neg__) rfl
  obtain ⟨fd6, F6⟩ := c.d.def_ 6 (d := D_Ratio___abs__) rfl
  obtain ⟨fd7, F7⟩ := c.d.def_ 7 (d := D_Ratio___bool__) rfl
  obtain ⟨fd8, F8⟩ := c.d.def_ 8 (d := D_Ratio___str__) rfl
  obtain ⟨fd9, F9⟩ := c.d.def_ 9 (d := D_Ratio___repr__) rfl
  obtain ⟨fd10, F10⟩ := c.d.def_ 10 (d := D__law_pool) rfl
  obtain ⟨fd11, F11⟩ := c.d.def_ 11 (d := D__law_take) rfl
  obtain ⟨fd12, F12⟩ := c.d.def_ 12 (d := D__law_whole) rfl
  obtain ⟨fd13, F13⟩ := c.d.def_ 13 (d := D__law_said) rfl
  obtain ⟨fd14, F14⟩ := c.d.def_ 14 (d := D__law_divisor) rfl
  obtain ⟨fd15, F15⟩ := c.d.def_ 15 (d := D__law_right) rfl
  obtain ⟨fd16, F16⟩ := c.d.def_ 16 (d := D_law) rfl
  have e := hfa.symm.trans (He.glo_ok X G (c.d.fact 32 (f := .glo "law") rfl))
  cases e
  have b := FunD.bindsA (ps := ["_law_script"]) F16 fun _ _ _ _ _ _ us hl => match us, hl with | [_], _ => rfl
  have sdR : RCls K (He.ga K "Ratio") := rcls_of (He.cls_ok (c.d.fact 12 (f := .cls "Ratio") rfl)) (He.noat_ok (c.d.fact 14 (f := .noat "Ratio" "reduced_top") rfl)) (He.noat_ok (c.d.fact 15 (f := .noat "Ratio" "reduced_bottom") rfl)) (exb_clsR c.x) (exb_ki c.x)
  have sd : RCls K (He.ga K "Ratio") ∧ RKi K (He.ga K "Ratio") ∧ NX1 K (He.ga K "InvalidNumber") (He.ga K "RainError") := ⟨sdR, rki_of (exb_rki c.x), nx1_of (exb_ox_InvalidNumber c.x) (exb_no_InvalidNumber c.x) (exb_nx1 c.x)⟩
  refine ⟨fd16, fun s v => b s [v] rfl, sd, fun base _ _ => ?_⟩
  have m_int := He.free_ok X G (c.d.fact 0 (f := .free "int") rfl)
  have m_isinstance := He.free_ok X G (c.d.fact 1 (f := .free "isinstance") rfl)
  have m_bool := He.free_ok X G (c.d.fact 2 (f := .free "bool") rfl)
  have m_abs := He.free_ok X G (c.d.fact 3 (f := .free "abs") rfl)
  have m_str := He.free_ok X G (c.d.fact 4 (f := .free "str") rfl)
  have m_repr := He.free_ok X G (c.d.fact 5 (f := .free "repr") rfl)
  have m_len := He.free_ok X G (c.d.fact 6 (f := .free "len") rfl)
  have m_min := He.free_ok X G (c.d.fact 7 (f := .free "min") rfl)
  have m_max := He.free_ok X G (c.d.fact 8 (f := .free "max") rfl)
  have m_range := He.free_ok X G (c.d.fact 9 (f := .free "range") rfl)
  have g_InvalidNumber := He.glo_ok X G (c.d.fact 10 (f := .glo "InvalidNumber") rfl)
  have g_Ratio := He.glo_ok X G (c.d.fact 11 (f := .glo "Ratio") rfl)
  have k_Ratio := He.cls_ok (c.d.fact 12 (f := .cls "Ratio") rfl)
  have g_RainError := He.glo_ok X G (c.d.fact 13 (f := .glo "RainError") rfl)
  have nT := He.noat_ok (c.d.fact 14 (f := .noat "Ratio" "reduced_top") rfl)
  have nB := He.noat_ok (c.d.fact 15 (f := .noat "Ratio" "reduced_bottom") rfl)
  have mkR := He.mkr_ok (c.d.fact 16 (f := .mkr "Ratio") rfl)
  obtain ⟨fg0, Fg0⟩ := c.g 0 (g := G_top) rfl
  have cp_top : CalP P w K mg base CX0 1 (He.ga K "Ratio") "top" (getSp (He.ga K "Ratio") "reduced_top") := ⟨_, _, fg0, ok_get_top Fg0 k_Ratio nT, k_Ratio, pr_of (exb_top c.x), Fg0.bindsN fun _ _ _ _ _ _ us hl => match us, hl with | [_], _ => rfl⟩
  obtain ⟨fg1, Fg1⟩ := c.g 1 (g := G_bottom) rfl
  have cp_bottom : CalP P w K mg base CX0 1 (He.ga K "Ratio") "bottom" (getSp (He.ga K "Ratio") "reduced_bottom") := ⟨_, _, fg1, ok_get_bottom Fg1 k_Ratio nB, k_Ratio, pr_of (exb_bottom c.x), Fg1.bindsN fun _ _ _ _ _ _ us hl => match us, hl with | [_], _ => rfl⟩
  have ox_InvalidNumber := ox_ok PySem.F.excBase_ValueError mok_ve (exb_ox_InvalidNumber c.x)
  have xf_InvalidNumber := xfB_ok (exb_xf_InvalidNumber c.x)
  have no_InvalidNumber_value := of_decide_eq_true (exb_no_InvalidNumber c.x)
  have ec_InvalidNumber := ec_of (exb_ec_InvalidNumber c.x)
  have bg_RainError := bg_ok (exb_bg_RainError c.x)
  have me_ini_InvalidNumber := He.meth_ok (c.d.fact 17 (f := .meth "InvalidNumber" "__init__") rfl)
  have cx_InvalidNumber : CalX P w K mg base CX0 1 "InvalidNumber" (He.ga K "InvalidNumber") ["self", "value"] (spExc K (He.ga K "InvalidNumber") "ValueError" "ValueError.__new__" "ValueError.__init__" bm_ValueError "value") [] "ValueError" "ValueError.__new__" "ValueError.__init__" bm_ValueError := ⟨_, fd0, [], ok_InvalidNumber___init__ F0 bg_RainError g_RainError, ox_InvalidNumber, me_ini_InvalidNumber.at_, beq_iff_eq.mp me_ini_InvalidNumber.fn, g_InvalidNumber, F0.bindsN fun _ _ _ _ _ _ us hl => match us, hl with | [_, _], _ => rfl, .nil⟩
  have c_is_whole : Cal P w K mg base CX0 1 "is_whole" ["value"] (spWhole K) := ⟨_, fd1, ok_is_whole F1 m_int m_isinstance m_bool, He.glo_ok X G (c.d.fact 18 (f := .glo "is_whole") rfl), F1.kp, F1.bindsN fun _ _ _ _ _ _ us hl => match us, hl with | [_], _ => rfl⟩
  have c_common_divisor : Cal P w K mg base CX0 1 "common_divisor" ["first", "second"] (spGcd K) := ⟨_, fd2, ok_common_divisor F2 , He.glo_ok X G (c.d.fact 19 (f := .glo "common_divisor") rfl), F2.kp, F2.bindsN fun _ _ _ _ _ _ us hl => match us, hl with | [_, _], _ => rfl⟩
  obtain ⟨dr1, vr1, br1⟩ := F3.binds1 (ps := ["self", "numerator", "denominator"]) 2 0 (show ([V.int 1] : List V) ≠ [] from List.cons_ne_nil _ _) rfl (fun _ _ _ _ _ _ _ us its h1 h2 => match us, its, h1, h2 with | [_, _], [_], _, _ => ⟨_, rfl, rfl⟩)
  obtain ⟨dr2, vr2, br2⟩ := F3.binds1 (ps := ["self", "numerator", "denominator"]) 3 1 (show ([V.int 1] : List V) ≠ [] from List.cons_ne_nil _ _) rfl (fun _ _ _ _ _ _ _ us its h1 h2 => match us, its, h1, h2 with | [_, _, _], [_], _, _ => ⟨_, rfl, rfl⟩)
  have cm1_Ratio : CalM P w K mg base (L2.CX P w) 3 "Ratio" (He.ga K "Ratio") ["self", "numerator", "denominator"] (spRInitX K (He.ga K "Ratio") (He.ga K "InvalidNumber")) [.int 1] := ⟨_, fd3, dr1, ok_Ratio___init__ F3 c_is_whole cx_InvalidNumber m_abs c_common_divisor, mkR, g_Ratio, br1, vr1⟩
  have cm2_Ratio : CalM P w K mg base (L2.CX P w) 3 "Ratio" (He.ga K "Ratio") ["self", "numerator", "denominator"] (spRInitX K (He.ga K "Ratio") (He.ga K "InvalidNumber")) [] := ⟨_, fd3, dr2, ok_Ratio___init__ F3 c_is_whole cx_InvalidNumber m_abs c_common_divisor, mkR, g_Ratio, br2, vr2⟩
  obtain ⟨_, kb_ck_Ratio_denominator_numerator⟩ := F3.kbindsD (ps := ["self", "numerator", "denominator"]) 1 ["denominator", "numerator"] (fun vs _ zs => vs ++ pick [1, 0] zs) (List.cons_ne_nil _ _) (fun r1 _ r3 => r1.append (pick_vals r3)) (fun _ _ _ _ _ _ _ us its ws h1 h2 h3 => match us, its, ws, h1, h2, h3 with | [_], [_], [_, _], _, _, _ => ⟨_, rfl, rfl⟩)
  have ck_Ratio_denominator_numerator : CalMK P w K mg base (L2.CX P w) 3 "Ratio" (He.ga K "Ratio") ["self", "numerator", "denominator"] (spRInitX K (He.ga K "Ratio") (He.ga K "InvalidNumber")) ["denominator", "numerator"] (fun vs zs => vs ++ pick [1, 0] zs) := ⟨_, fd3, _, ok_Ratio___init__ F3 c_is_whole cx_InvalidNumber m_abs c_common_divisor, mkR, g_Ratio, kb_ck_Ratio_denominator_numerator⟩
  have me_floor := He.meth_ok (c.d.fact 20 (f := .meth "Ratio" "floor") rfl)
  have ct_floor : CalT P w K mg base CX0 1 (He.ga K "Ratio") "floor" ["self"] (spFloor K (He.ga K "Ratio")) := ⟨_, fd4, ok_Ratio_floor F4 , k_Ratio, me_floor, F4.bindsN fun _ _ _ _ _ _ us hl => match us, hl with | [_], _ => rfl⟩
  have me_neg := He.meth_ok (c.d.fact 21 (f := .meth "Ratio" "__neg__") rfl)
  have cs_neg : CalS P w K mg base CX0 5 (He.ga K "Ratio") "__neg__" (spNegR K (He.ga K "Ratio") (He.ga K "InvalidNumber")) := ⟨_, fd5, ok_Ratio___neg__ F5 cm2_Ratio, me_neg.at_, me_neg.fn, F5.bindsN fun _ _ _ _ _ _ us hl => match us, hl with | [_], _ => rfl⟩
  have me_abs := He.meth_ok (c.d.fact 22 (f := .meth "Ratio" "__abs__") rfl)
  have cs_abs : CalS P w K mg base CX0 5 (He.ga K "Ratio") "__abs__" (spAbsR K (He.ga K "Ratio") (He.ga K "InvalidNumber")) := ⟨_, fd6, ok_Ratio___abs__ F6 m_abs cm2_Ratio, me_abs.at_, me_abs.fn, F6.bindsN fun _ _ _ _ _ _ us hl => match us, hl with | [_], _ => rfl⟩
  have me_bool := He.meth_ok (c.d.fact 23 (f := .meth "Ratio" "__bool__") rfl)
  have cs_bool : CalS P w K mg base CX0 1 (He.ga K "Ratio") "__bool__" (spBoolR K (He.ga K "Ratio")) := ⟨_, fd7, ok_Ratio___bool__ F7 m_bool, me_bool.at_, me_bool.fn, F7.bindsN fun _ _ _ _ _ _ us hl => match us, hl with | [_], _ => rfl⟩
  have me_str := He.meth_ok (c.d.fact 24 (f := .meth "Ratio" "__str__") rfl)
  have cs_str : CalS P w K mg base CX0 1 (He.ga K "Ratio") "__str__" (spStrR K (He.ga K "Ratio")) := ⟨_, fd8, ok_Ratio___str__ F8 m_str, me_str.at_, me_str.fn, F8.bindsN fun _ _ _ _ _ _ us hl => match us, hl with | [_], _ => rfl⟩
  have me_rrepr := He.meth_ok (c.d.fact 25 (f := .meth "Ratio" "__repr__") rfl)
  have cuc_repr : CalUC P w K mg base 1 (He.ga K "Ratio") "__repr__" (spRRepr K (He.ga K "Ratio")) := ⟨_, fd9, ok_Ratio___repr__ F9 , me_rrepr.at_, me_rrepr.fn, F9.bindsN fun _ _ _ _ _ _ us hl => match us, hl with | [_], _ => rfl⟩
  have c__law_pool : Cal P w K mg base CX0 1 "_law_pool" ["_law_script", "_law_k"] (RvM.spPool K) := ⟨_, fd10, ok__law_pool F10 m_int, He.glo_ok X G (c.d.fact 26 (f := .glo "_law_pool") rfl), F10.kp, F10.bindsN fun _ _ _ _ _ _ us hl => match us, hl with | [_, _], _ => rfl⟩
  have c__law_take : Cal P w K mg base CX0 1 "_law_take" ["_law_pool_here", "_law_many"] (RvM.spTake K) := ⟨_, fd11, ok__law_take F11 , He.glo_ok X G (c.d.fact 27 (f := .glo "_law_take") rfl), F11.kp, F11.bindsN fun _ _ _ _ _ _ us hl => match us, hl with | [_, _], _ => rfl⟩
  have c__law_whole : Cal P w K mg base CX0 2 "_law_whole" ["_law_pool_here"] (spLWhole01 K) := ⟨_, fd12, ok__law_whole F12 c__law_take m_int, He.glo_ok X G (c.d.fact 28 (f := .glo "_law_whole") rfl), F12.kp, F12.bindsN fun _ _ _ _ _ _ us hl => match us, hl with | [_], _ => rfl⟩
  have c__law_said : CalG P w K mg base CX0 6 "_law_said" ["_law_top", "_law_bottom"] (spSaid K (He.ga K "Ratio") (He.ga K "InvalidNumber") (He.ga K "RainError")) := ⟨_, fd13, ok__law_said F13 cm2_Ratio g_RainError ec_InvalidNumber m_isinstance xf_InvalidNumber no_InvalidNumber_value cuc_repr m_repr g_InvalidNumber, He.glo_ok X G (c.d.fact 29 (f := .glo "_law_said") rfl), F13.kp, F13.bindsN fun _ _ _ _ _ _ us hl => match us, hl with | [_, _], _ => rfl⟩
  have c__law_divisor : Cal P w K mg base CX0 1 "_law_divisor" ["_law_one", "_law_other"] (spGcd K) := ⟨_, fd14, ok__law_divisor F14 , He.glo_ok X G (c.d.fact 30 (f := .glo "_law_divisor") rfl), F14.kp, F14.bindsN fun _ _ _ _ _ _ us hl => match us, hl with | [_, _], _ => rfl⟩
  have c__law_right : CalG P w K mg base CX0 7 "_law_right" ["_law_top", "_law_bottom"] (spRight01 K (He.ga K "Ratio") (He.ga K "InvalidNumber")) := ⟨_, fd15, ok__law_right F15 cm2_Ratio m_abs c__law_divisor m_int cp_bottom cp_top cuc_repr m_repr m_str cs_str cs_bool m_bool cs_abs cs_neg ct_floor m_isinstance, He.glo_ok X G (c.d.fact 31 (f := .glo "_law_right") rfl), F15.kp, F15.bindsN fun _ _ _ _ _ _ us hl => match us, hl with | [_, _], _ => rfl⟩
  exact ok_law F16 cm1_Ratio c__law_said cuc_repr m_repr cm2_Ratio m_len m_min m_max m_range c__law_pool c__law_whole c__law_take c__law_right ck_Ratio_denominator_numerator
end Rv
open PySem PySem.W PySem.Calls PyProof.Rows
theorem PySem.Challenge.cw_rainvalleys_k01_fractions_in_lowest_term_holds : PySem.Challenge.rw_rainvalleys_k01_fractions_in_lowest_term.Holds := by
  w_on; o_law
  refine HandSHeadRun.head_any (r := OpenLaw.row PySem.Challenge.rw_rainvalleys_k01_fractions_in_lowest_term) (q := view (OpenLaw.row PySem.Challenge.rw_rainvalleys_k01_fractions_in_lowest_term).prog [18]) (H := Rv.hk) (ob := Rv.ob) (M := 6000) (loose := Rv.loose) (d := HandSHeadRun.topDef (OpenLaw.row PySem.Challenge.rw_rainvalleys_k01_fractions_in_lowest_term).prog 18) (kwd := []) Rv.ob_eq
    (by kernel_rfl) (fun s => by kernel_rfl) Rv.run (by kernel_rfl) (by kernel_rfl) (by kernel_rfl) (by rfl) (by first | assumption | decide +kernel) (by decide +kernel) ⟨rfl, rfl, rfl, rfl, rfl, by decide +kernel⟩ ?hw ?hc
  case hw => w_witness2
  case hc =>
    refine Rv.walk_ofG (l := PySem.Challenge.rw_rainvalleys_k01_fractions_in_lowest_term) (n := 63) (k := 8) (x := "_law_script") (CX := L2.CX0) rfl (by decide) (by kernel_rfl) ⟨rfl, by decide, by decide⟩ ?F (fun _ _ _ _ z => z)
    intro w mg fa h Y G hmg0
    obtain ⟨K, KX, c⟩ := Y
    have hmg : mg ("law" : PySem.Str) = some (.ref fa) := by
      have e : (HandSHeadRun.topDef (OpenLaw.row PySem.Challenge.rw_rainvalleys_k01_fractions_in_lowest_term).prog 18).name = ("law" : PySem.Str) := by kernel_rfl
      rw [← e]
      exact hmg0
    obtain ⟨fd, hb, sd, hF⟩ := Rv.facts (P := (PySem.Challenge.rw_rainvalleys_k01_fractions_in_lowest_term).prog) (w := w) KX G hmg c
    exact ⟨K, fd, _, KX, hb, fun H a ns hl hO hS => ⟨a, ns, rfl, hl, hS, sd.1, sd.2.1, sd.2.2, fun _ => rfl⟩, hF⟩

