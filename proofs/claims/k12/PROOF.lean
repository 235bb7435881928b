import PyProof.Rows.All
import Wide.All
import OpenK.AllK
import Wide.FinOn
import KE.KStateDown
import HandS.ForMost
import HandS.ForExc
import HandS.Defaults
import HandS.Property
import HandS.MakeKw
import HandS.IsInst
import HandS.Flow
import HandS.Style
import HandS.Wide
import HandS.OwnEq
import HandS.Conv
import HandS.Deep
import HandS.Head0
import HandS.Head1
import HandS.Head2
import HandS.HeadEnd
import HandS.HeadHook1
import HandS.HeadHook2
import KE.GoesMore
import OpenK.KOps
import KE.KOpsOwn
import HandS.MakeKwOnly
import HandS.FStr
import HandS.List
import HandS.TupAny
import HandS.More
import HandS.ExcInit
import KE.KExcInit
import HandS.Exc
import HandS.ExcOwn
import HandS.ExcIs
import HandS.ExcField
import KE.KExcIs
import HandS.HotCalls
import HandS.Dict
import KE.KCallOwn
import PyProof.Conv_bool
import PyProof.Rows.FactsN_abs
import PyProof.ReprRoads
import HandS.Zip
import PySem.Challenge.RW_rainvalleys_k12_invalid_profiles
set_option Elab.async false
set_option linter.all false
set_option maxRecDepth 100000
set_option maxHeartbeats 4000000
/-! Words of this proof: operators on values by short names, the steps of a reading, what a call of a def asks. -/
namespace Rv
open PySem PySem.Spec PyProof.Rows L2
abbrev cInt : List V → Hp → VK → Prop := fun xs H Q => (∃ i, xs = [.int i] ∧ Q (.int i) H) ∨ ∃ k, xs = [.bl k] ∧ Q (.int (if k then 1 else 0)) H
abbrev cAbs : List V → Hp → VK → Prop := fun xs H Q => ∃ i, xs = [.int i] ∧ Q (.int (if i < 0 then -i else i)) H
section
variable {K : PySem.W.Frag} {σ : L2.St} {H : Hp} {Q : VK} {D : Ends} {v x y : V} {i j : Int} {n : Nat} {ta tb te to ti : TE} {t u c : TT} {tr : TA} {b : Bool} {r : R2} {s1 s2 : TS} {g : TG} {p : Addr} {xs : List V} {TQ : Bool → Hp → Prop} {AQ : List V → Hp → Prop} {HQ : Hp → Prop} {GQ : L2.St → Hp → Prop}
theorem w_var (h : σ[n]? = some (some v)) (q : Q v H) : tVar n σ H Q := ⟨v, h, q⟩
theorem w_c (q : Q v H) : tC v σ H Q := q
theorem w_op (q : ta σ H fun x H1 => tb σ H1 fun y H2 => r x y H2 Q) : tOp r ta tb σ H Q := q
theorem w_un {r : V → Hp → VK → Prop} (q : ta σ H fun x H1 => r x H1 Q) : tUn r ta σ H Q := q
theorem w_U {g : Int → V} (q : Q (g i) H) : rU g (.int i) H Q := ⟨i, rfl, q⟩
theorem w_test (q : ta σ H fun x H' => ∃ k, x = .bl k ∧ TQ k H') : tTest ta σ H TQ := q
theorem w_tB (q : ta σ H fun x H' => ∃ k, x = .bl k ∧ TQ k H') : tB ta σ H TQ := q
theorem w_bl (q : TQ b H) : ∃ k, V.bl b = .bl k ∧ TQ k H := ⟨b, rfl, q⟩
theorem w_I0 {g : Int → Int → V} (q : Q (g i j) H) : rI0 g (.int i) (.int j) H Q := ⟨i, j, rfl, rfl, q⟩
theorem w_I {C : Int → Int → Prop} {g : Int → Int → V} (hc : C i j) (q : Q (g i j) H) : rI C g (.int i) (.int j) H Q := ⟨i, j, rfl, rfl, hc, q⟩
theorem w_eqI (q : Q (.bl (decide (i = j))) H) : rEq (.int i) (.int j) H Q := ⟨rfl, by
  have e : decide (V.int i = V.int j) = decide (i = j) := by
    by_cases h : i = j
    · rw [h, decide_eq_true rfl, decide_eq_true rfl]
    · rw [decide_eq_false h, decide_eq_false (fun z => h (V.int.inj z))]
  rw [e]
  exact q⟩
theorem w_neI (q : Q (.bl (!decide (i = j))) H) : rNe (.int i) (.int j) H Q := ⟨rfl, by
  have e : decide (V.int i = V.int j) = decide (i = j) := by
    by_cases h : i = j
    · rw [h, decide_eq_true rfl, decide_eq_true rfl]
    · rw [decide_eq_false h, decide_eq_false (fun z => h (V.int.inj z))]
  rw [e]
  exact q⟩
theorem w_cons (q : ta σ H fun x H1 => tr σ H1 fun xs H2 => AQ (x :: xs) H2) : tCons ta tr σ H AQ := q
theorem w_nil (q : AQ [] H) : tNil σ H AQ := q
theorem w_seqA (q : te σ H fun x H1 => g x σ H1 (s2 D)) : tSeq (tAsg te g) s2 D σ H := q
theorem w_seqD (q : te σ H fun _ H1 => s2 D σ H1) : tSeq (tDrop te) s2 D σ H := q
theorem w_seqP {m : Nat} (q : tr σ H fun vs H1 => ∃ v w, vs = [v, w] ∧ s2 D ((σ.set n (some v)).set m (some w)) H1) : tSeq (tPar n m tr) s2 D σ H := q
theorem w_next (q : D.nx σ H) : tNext D σ H := q
theorem w_asg (q : te σ H fun x H1 => g x σ H1 D.nx) : tAsg te g D σ H := q
theorem w_gn (q : GQ (σ.set n (some v)) H) : gName n v σ H GQ := q
theorem w_gsub {s : TSet} (q : to σ H fun o H1 => ti σ H1 fun i H2 => s o i v H2 fun H3 => GQ σ H3) : gSub to ti s v σ H GQ := q
theorem w_ret (q : te σ H D.rt) : tRet te D σ H := q
theorem w_drop (q : te σ H fun _ H1 => D.nx σ H1) : tDrop te D σ H := q
theorem w_ifs (q : c σ H fun b H1 => if b = true then s1 D σ H1 else s2 D σ H1) : tIfS c s1 s2 D σ H := q
theorem w_if (q : c σ H fun b H1 => if b = true then ta σ H1 Q else tb σ H1 Q) : tIf c ta tb σ H Q := q
theorem w_and (q : t σ H fun c H1 => if c = true then u σ H1 TQ else TQ false H1) : tAnd t u σ H TQ := q
theorem w_or (q : t σ H fun c H1 => if c = true then TQ true H1 else u σ H1 TQ) : tOr t u σ H TQ := q
theorem w_not (q : t σ H fun c H1 => TQ (!c) H1) : tNot t σ H TQ := q
theorem w_andV (q : ta σ H fun x H1 => ∃ c, x = .bl c ∧ if c = true then tb σ H1 Q else Q (.bl false) H1) : tAndV ta tb σ H Q := q
theorem w_orV (q : ta σ H fun x H1 => ∃ c, x = .bl c ∧ if c = true then Q (.bl true) H1 else tb σ H1 Q) : tOrV ta tb σ H Q := q
theorem w_notV (q : ta σ H fun x H1 => ∃ c, x = .bl c ∧ Q (.bl (!c)) H1) : tNotV ta σ H Q := q
theorem w_ixL (h : SqL K H p xs) (ha : atI xs i = some v) (q : Q v H) : rIxL K (.ref p) (.int i) H Q := ⟨p, xs, i, v, rfl, rfl, h, ha, q⟩
theorem w_cb {r : List V → Hp → VK → Prop} (q : tr σ H fun vs H1 => r vs H1 Q) : tCB r tr σ H Q := q
theorem w_intB (q : Q (.int (if b then 1 else 0)) H) : cInt [.bl b] H Q := .inr ⟨b, rfl, q⟩
theorem w_intI (q : Q (.int i) H) : cInt [.int i] H Q := .inl ⟨i, rfl, q⟩
theorem w_abs (q : Q (.int (if i < 0 then -i else i)) H) : cAbs [.int i] H Q := ⟨i, rfl, q⟩
theorem w_call {sp : Sp} {dvs : List V} {E : XK} (q : tr σ H fun vs H1 => sp (vs ++ dvs) H1 Q E) : tCall sp dvs E tr σ H Q := q
theorem w_lst (q : tr σ H fun xs H1 => xs.length ≤ sizeLine ∧ ∀ p, H1 p = none → Q (.ref p) (upd H1 p (.lst xs))) : tLst tr σ H Q := q
theorem w_tup (q : tr σ H fun xs H1 => xs.length ≤ sizeLine ∧ ∀ p, H1 p = none → Q (.ref p) (upd H1 p (.tup xs))) : tTup tr σ H Q := q
theorem w_par {m : Nat} (q : tr σ H fun vs H1 => ∃ v w, vs = [v, w] ∧ D.nx ((σ.set n (some v)).set m (some w)) H1) : tPar n m tr D σ H := q
theorem w_sl {r : V → Option Int → Option Int → Hp → VK → Prop} {tl th : TO} (q : te σ H fun x H1 => tl σ H1 fun l H2 => th σ H2 fun u H3 => r x l u H3 Q) : tSl r te tl th σ H Q := q
theorem w_noPart {OQ : Option Int → Hp → Prop} (q : OQ none H) : tNoPart σ H OQ := q
theorem w_part {OQ : Option Int → Hp → Prop} (q : te σ H fun x H1 => ∃ i, x = .int i ∧ OQ (some i) H1) : tPart te σ H OQ := q
theorem w_ex1 {P : Int → Prop} (q : P i) : ∃ j, V.int i = .int j ∧ P j := ⟨i, rfl, q⟩
theorem w_exb {P : Bool → Prop} (q : P b) : ∃ j, V.bl b = .bl j ∧ P j := ⟨b, rfl, q⟩
theorem w_nx {f : L2.St → Hp → Prop} {r : VK} {k c : L2.St → Hp → Prop} {σ : L2.St} {H : Hp} (q : f σ H) : Ends.nx ⟨f, r, k, c⟩ σ H := q
theorem w_rt {f : L2.St → Hp → Prop} {r : VK} {k c : L2.St → Hp → Prop} {v : V} {H : Hp} (q : r v H) : Ends.rt ⟨f, r, k, c⟩ v H := q
theorem w_yes {TQ : Bool → Hp → Prop} {σ : L2.St} {H : Hp} (q : TQ true H) : tYes σ H TQ := q
theorem iteNT {A B : Prop} (h : B) : if (!true) = true then A else B := iteF h
theorem iteNF {A B : Prop} (h : A) : if (!false) = true then A else B := iteT h
theorem iteRf {α : Type} [DecidableEq α] {z : α} {A B : Prop} (h : A) : if decide (z = z) = true then A else B := by
  rw [decide_eq_true rfl]
  exact iteT h
theorem iteNRf {α : Type} [DecidableEq α] {z : α} {A B : Prop} (h : B) : if (!decide (z = z)) = true then A else B := by
  rw [decide_eq_true rfl]
  exact iteF h
end
theorem pow_c {i j : Int} (h : 0 ≤ j) (h2 : j ≤ 1000000) (h3 : -18446744073709551616 < i) (h4 : i < 18446744073709551616) : CPow i j := ⟨h, h2, by
  have e : (2 : Nat) ^ 64 = 18446744073709551616 := by decide
  omega⟩
theorem mul_l {i j : Int} (h3 : -18446744073709551616 < i) (h4 : i < 18446744073709551616) : CMul i j := .inl ⟨by
  have e : (2 : Int) ^ 64 = 18446744073709551616 := by decide
  omega, by
  have e : (2 : Int) ^ 64 = 18446744073709551616 := by decide
  omega⟩
theorem mul_r {i j : Int} (h3 : -18446744073709551616 < j) (h4 : j < 18446744073709551616) : CMul i j := .inr ⟨by
  have e : (2 : Int) ^ 64 = 18446744073709551616 := by decide
  omega, by
  have e : (2 : Int) ^ 64 = 18446744073709551616 := by decide
  omega⟩
/-- all that H tracked, but the object at d, stands as it was -/
def But (d : Addr) (H H' : Hp) : Prop := ∀ b o, b ≠ d → H b = some o → H' b = some o
theorem But.free {d : Addr} {H H' : Hp} (e : But d H H') {l : Addr} (n : l ≠ d) (h : H' l = none) : H l = none := by
  cases q : H l with
  | none => rfl
  | some o =>
    rw [e l o n q] at h
    cases h
theorem sq_lst {K : PySem.W.Frag} {H : Hp} {a : Addr} {xs : List V} (h : H a = some (.lst xs)) : SqL K H a xs := .inl (.inl h)
theorem sq_tup {K : PySem.W.Frag} {H : Hp} {a : Addr} {xs : List V} (h : H a = some (.tup xs)) : SqT K H a xs := .inl (.inl h)
end Rv
namespace Rv
open PySem PySem.Spec PyProof.Rows L2
end Rv
namespace Rv
open PySem PySem.Spec PyProof.Rows L2
end Rv
namespace Rv
open PySem PySem.Spec PyProof.Rows L2
end Rv
namespace Rv
open PySem PySem.Spec PyProof.Rows L2
/-! what the top leaves behind, beyond defs and methods: properties, an own ==, getters -/
def prA (K : PySem.W.Frag) (x f : Str) : Addr := He.ma K (He.ga K x) f
def gtA (K : PySem.W.Frag) (x f : Str) : Addr := match PySem.W.recIn K (prA K x f) "property" with
  | some (.ref g :: _) => g
  | _ => 0
/-- the class x has no __class__ of its own -/
def clB (K : PySem.W.Frag) (x : Str) : Bool := He.eqO (PySem.W.findIn K (.ref (He.ga K x)) "__class__") (some (some (.builtin "object.__class__"))) &&
  (He.eqO (PySem.W.specialIn K (.builtin "object.__class__") "__get__") (some (some (.builtin "getset_descriptor.__get__"))) && (decide (PySem.W.takesIn K (.builtin "object.__class__") = some true) && decide (PySem.W.mroIn K (He.ga K x) (.type "object") = some true)))
/-- the text of a function at an address -/
def txt (K : PySem.W.Frag) (a : Addr) : He.FnW := match K.lookup a with
  | some o => (match o.data with
    | .func z => some (z.name, z.qualname, z.params, z.body, z.scope, z.globals, z.closure, z.builtins)
    | _ => none)
  | none => none
def isNn : Value → Bool
  | .none => true
  | _ => false
def txB (K : PySem.W.Frag) (a : Addr) (q : Str) : Bool := PySem.W.keepIn K (.ref a) && (match K.lookup a with
  | some o => (match o.data with
    | .func z => PySem.W.codeIn K z.code q && isNn z.defaults
    | _ => false)
  | none => false)
/-- a getter: its class, the property's name, its function's text -/
structure Gt where
  cl : Str
  pr : Str
  qual : Str
  params : Arguments
  body : List Stmt
  scope : Scope
def Gt.val (g : Gt) : He.FnW := some (g.pr, g.qual, g.params, .stmts g.body, g.scope, mainGlobals, [], builtinsNs)
/-! the hook: facts, defs, getters, one more test -/
abbrev AlR : Type := He.AlD × (Bool × List He.FnW)
def obsR (fa : List He.Fa) (fn : List He.DefD) (gs : List Gt) (ex : PySem.W.Frag → Bool) (K : PySem.W.Frag) : AlR :=
  (He.obsD fa fn K, (ex K && gs.all fun g => txB K (gtA K g.cl g.pr) g.qual, gs.map fun g => txt K (gtA K g.cl g.pr)))
def valR (fn : List He.DefD) (gs : List Gt) : AlR := (He.valD fn, (true, gs.map Gt.val))
def SaysR (fa : List He.Fa) (fn : List He.DefD) (gs : List Gt) (ex : PySem.W.Frag → Bool) (K : PySem.W.Frag) : Prop := obsR fa fn gs ex K = valR fn gs
end Rv
namespace Rv
open PySem PySem.Spec PyProof.Rows L2
/-! the hook with the addresses said -/
def obsRL (as : List Addr) (fa : List He.Fa) (fn : List He.DefD) (gs : List Gt) (ex : PySem.W.Frag → Bool) (g : Addr → Option Obj) : AlR := obsR fa fn gs ex (He.frG g as)
def hookL (as : List Addr) (fa : List He.Fa) (fn : List He.DefD) (gs : List Gt) (ex : PySem.W.Frag → Bool) : PySem.W.Hook where
  α := AlR
  obs := fun s => obsRL as fa fn gs ex s.heap.get?
  val := fun _ => valR fn gs
  says := fun _ h => ∃ K : PySem.W.Frag, K.In h ∧ SaysR fa fn gs ex K
  of := fun _ _ e => ⟨_, He.frG_in, e⟩
  keeps := fun _ _ _ ⟨K, hK, c⟩ k => ⟨K, PySem.W.Frag.In.keeps hK k, c⟩
theorem obsRL_eq {as : List Addr} {fa : List He.Fa} {fn : List He.DefD} {gs : List Gt} {ex : PySem.W.Frag → Bool} {g : Addr → Option Obj} {s : Shared} (h : ∀ a, g a = s.heap.get? a) : obsRL as fa fn gs ex g = (hookL as fa fn gs ex).obs s := by
  have e : g = s.heap.get? := funext h
  rw [e] <;> rfl
end Rv
namespace Rv
open PySem PySem.Spec PyProof.Rows L2
/-! ### the law's draws: a list of the cells, a place, a number in use, a seed -/
theorem divw {i j : Int} (h : 0 < j) (hb : j < 2 ^ 200) : CDivW i j := by
  refine wide_div (b := 201) h ?_ (by decide) (by decide)
  have e : (2 : Int) ^ 200 = ((2 ^ 200 : Nat) : Int) := rfl
  have e2 : (2 ^ 200 : Nat) < 2 ^ 201 := by decide
  omega
local macro_rules | `(tactic| walk_at "rv st") => `(tactic| first
  | with_reducible refine iteT ?_ | with_reducible refine iteF ?_ | with_reducible refine w_nx ?_ | with_reducible refine w_yes ?_ | with_reducible refine w_rt ?_ | with_reducible refine iteNT ?_ | with_reducible refine iteNF ?_ | with_reducible refine iteNRf ?_ | with_reducible refine iteRf ?_ | with_reducible refine w_seqA ?_ | with_reducible refine w_seqD ?_ | with_reducible refine w_seqP ?_ | with_reducible refine w_asg ?_ | with_reducible refine w_ret ?_ | with_reducible refine w_drop ?_ | with_reducible refine w_ifs ?_ | with_reducible refine w_next ?_ | with_reducible refine w_par ?_
  | with_reducible refine w_op ?_ | with_reducible refine w_un ?_ | ((with_reducible show tVar _ _ _ _); refine' w_var ?hv ?_; (case hv => exact rfl)) | with_reducible refine w_c ?_ | with_reducible refine w_test ?_ | with_reducible refine w_tB ?_
  | with_reducible refine w_bl ?_ | with_reducible refine w_I0 ?_ | with_reducible refine w_U ?_ | with_reducible refine w_eqI ?_ | with_reducible refine w_neI ?_
  | with_reducible refine w_cons ?_ | with_reducible refine w_nil ?_ | with_reducible refine w_gn ?_ | with_reducible refine w_gsub ?_ | with_reducible refine w_and ?_ | with_reducible refine w_or ?_ | with_reducible refine w_not ?_
  | with_reducible refine w_andV ?_ | with_reducible refine w_orV ?_ | with_reducible refine w_notV ?_ | with_reducible refine w_if ?_ | with_reducible refine w_cb ?_ | with_reducible refine w_call ?_ | with_reducible refine w_lst ?_ | with_reducible refine w_tup ?_
  | with_reducible refine w_sl ?_ | with_reducible refine w_noPart ?_ | with_reducible refine w_part ?_ | with_reducible refine w_ex1 ?_ | with_reducible refine w_exb ?_ | with_reducible refine w_intB ?_ | with_reducible refine w_intI ?_ | with_reducible refine w_abs ?_)
local macro_rules | `(tactic| walk_at "rv ix") => `(tactic| ((with_reducible show rIxL _ _ _ _ _); refine' w_ixL (sq_lst ?ha) ?hb ?_; (case ha => first | exact upd_same | assumption); (case hb => first | exact rfl | assumption)))
local macro_rules | `(tactic| walk_at "rv ar") => `(tactic| first
  | (refine' w_I ?hc ?_; (case hc => first | (show (0 : Int) < _; first | assumption | decide | omega) | exact pow_c (by decide) (by decide) (by first | decide | omega) (by first | decide | omega) | exact mul_r (by first | decide | omega) (by first | decide | omega) | exact mul_l (by first | decide | omega) (by first | decide | omega) | exact divw (by first | assumption | decide | omega) (by first | assumption | decide | omega))))
local macro_rules | `(tactic| walk_at "rv go") => `(tactic| repeat first | walk_at "rv st" | walk_at "rv ix" | ((with_reducible show rI _ _ _ _ _ _); walk_at "rv ar"))
end Rv
/-! enumerate of a tuple, and of a list or a tuple. -/
namespace PySem
open Sem (wp)
open AutoSeq1 (wpAny_loadPart')
end PySem
namespace Rv
open PySem PySem.Spec PyProof.Rows L2
end Rv
namespace Rv
open PySem PySem.Spec PyProof.Rows L2
/-! values: is it an integer -/
inductive Whole (K : PySem.W.Frag) (H : Hp) : V → Prop where
  | int (i : Int) : Whole K H (.int i)
  | bl (b : Bool) : Whole K H (.bl b)
  | other {v : V} {t : Value} (h : TyX K H v t) (k : PySem.W.kitOne K t (.type "int") = some false) (n1 : ∀ i, v ≠ .int i) : Whole K H v
def inI (lo hi : Int) : V → Bool
  | .int i => decide (lo ≤ i) && decide (i ≤ hi)
  | _ => false
/-- the first place whose value is not within, if any, from place n on -/
def outs (lo hi : Int) : List V → Nat → V
  | [], _ => .non
  | v :: r, n => if inI lo hi v = true then outs lo hi r (n + 1) else .int (n : Int)
theorem outs_none {lo hi : Int} : ∀ {xs : List V} {n : Nat}, (∀ x ∈ xs, inI lo hi x = true) → outs lo hi xs n = .non
  | [], _, _ => rfl
  | x :: r, n, h => by
    unfold outs
    rw [if_pos (h x List.mem_cons_self)]
    exact outs_none fun y hy => h y (List.mem_cons_of_mem _ hy)
/-- a row that is a list or a tuple -/
def RowAt (K : PySem.W.Frag) (H : Hp) (a : Addr) (xs : List V) : Prop := H a = some (.lst xs) ∨ H a = some (.tup xs)
local macro_rules | `(tactic| walk_at "rv st") => `(tactic| first
  | with_reducible refine iteT ?_ | with_reducible refine iteF ?_ | with_reducible refine w_nx ?_ | with_reducible refine w_yes ?_ | with_reducible refine w_rt ?_ | with_reducible refine iteNT ?_ | with_reducible refine iteNF ?_ | with_reducible refine iteNRf ?_ | with_reducible refine iteRf ?_ | with_reducible refine w_seqA ?_ | with_reducible refine w_seqD ?_ | with_reducible refine w_seqP ?_ | with_reducible refine w_asg ?_ | with_reducible refine w_ret ?_ | with_reducible refine w_drop ?_ | with_reducible refine w_ifs ?_ | with_reducible refine w_next ?_ | with_reducible refine w_par ?_
  | with_reducible refine w_op ?_ | with_reducible refine w_un ?_ | ((with_reducible show tVar _ _ _ _); refine' w_var ?hv ?_; (case hv => exact rfl)) | with_reducible refine w_c ?_ | with_reducible refine w_test ?_ | with_reducible refine w_tB ?_
  | with_reducible refine w_bl ?_ | with_reducible refine w_I0 ?_ | with_reducible refine w_U ?_ | with_reducible refine w_eqI ?_ | with_reducible refine w_neI ?_
  | with_reducible refine w_cons ?_ | with_reducible refine w_nil ?_ | with_reducible refine w_gn ?_ | with_reducible refine w_gsub ?_ | with_reducible refine w_and ?_ | with_reducible refine w_or ?_ | with_reducible refine w_not ?_
  | with_reducible refine w_andV ?_ | with_reducible refine w_orV ?_ | with_reducible refine w_notV ?_ | with_reducible refine w_if ?_ | with_reducible refine w_cb ?_ | with_reducible refine w_call ?_ | with_reducible refine w_lst ?_ | with_reducible refine w_tup ?_
  | with_reducible refine w_sl ?_ | with_reducible refine w_noPart ?_ | with_reducible refine w_part ?_ | with_reducible refine w_ex1 ?_ | with_reducible refine w_exb ?_ | with_reducible refine w_intB ?_ | with_reducible refine w_intI ?_ | with_reducible refine w_abs ?_)
local macro_rules | `(tactic| walk_at "rv ix") => `(tactic| ((with_reducible show rIxL _ _ _ _ _); refine' w_ixL (sq_lst ?ha) ?hb ?_; (case ha => first | exact upd_same | assumption); (case hb => first | exact rfl | assumption)))
local macro_rules | `(tactic| walk_at "rv ar") => `(tactic| first
  | (refine' w_I ?hc ?_; (case hc => first | (show (0 : Int) < _; first | assumption | decide | omega) | exact pow_c (by decide) (by decide) (by first | decide | omega) (by first | decide | omega) | exact mul_r (by first | decide | omega) (by first | decide | omega) | exact mul_l (by first | decide | omega) (by first | decide | omega) | exact divw (by first | assumption | decide | omega) (by first | assumption | decide | omega))))
local macro_rules | `(tactic| walk_at "rv go") => `(tactic| repeat first | walk_at "rv st" | walk_at "rv ix" | ((with_reducible show rI _ _ _ _ _ _); walk_at "rv ar"))
end Rv
/-! Operators, comparisons and len of instances of a class with its own defs for them. -/
namespace Rv
open PySem PySem.Spec PyProof.Rows L2
end Rv
namespace Rv
open PySem PySem.Spec PyProof.Rows L2
/-! fractions in the heap -/
def rfl2 (t b : Int) : List (Str × V) := putF "reduced_bottom" (.int b) (putF "reduced_top" (.int t) [])
/-- a Ratio t / b in lowest terms stands at p -/
def RatAt (C : Addr) (H : Hp) (p : Addr) (t b : Int) : Prop := (0 < b ∧ Int.gcd t b = 1) ∧ ∃ dx, H p = some (.ins C dx (rfl2 t b))
/-- what is told of the class Ratio -/
structure RCls (K : PySem.W.Frag) (C : Addr) : Prop where
  cl : Cls K C
  nT : NoAttr K C "reduced_top"
  nB : NoAttr K C "reduced_bottom"
  cA : PySem.W.findIn K (.ref C) "__class__" = some (some (.builtin "object.__class__"))
  cG : PySem.W.specialIn K (.builtin "object.__class__") "__get__" = some (some (.builtin "getset_descriptor.__get__"))
  cT : PySem.W.takesIn K (.builtin "object.__class__") = some true
  cM : PySem.W.mroIn K C (.type "object") = some true
  ki : PySem.W.kitOne K (.type "int") (.ref C) = some false
local macro_rules | `(tactic| walk_at "rv st") => `(tactic| first
  | with_reducible refine iteT ?_ | with_reducible refine iteF ?_ | with_reducible refine w_nx ?_ | with_reducible refine w_yes ?_ | with_reducible refine w_rt ?_ | with_reducible refine iteNT ?_ | with_reducible refine iteNF ?_ | with_reducible refine iteNRf ?_ | with_reducible refine iteRf ?_ | with_reducible refine w_seqA ?_ | with_reducible refine w_seqD ?_ | with_reducible refine w_seqP ?_ | with_reducible refine w_asg ?_ | with_reducible refine w_ret ?_ | with_reducible refine w_drop ?_ | with_reducible refine w_ifs ?_ | with_reducible refine w_next ?_ | with_reducible refine w_par ?_
  | with_reducible refine w_op ?_ | with_reducible refine w_un ?_ | ((with_reducible show tVar _ _ _ _); refine' w_var ?hv ?_; (case hv => exact rfl)) | with_reducible refine w_c ?_ | with_reducible refine w_test ?_ | with_reducible refine w_tB ?_
  | with_reducible refine w_bl ?_ | with_reducible refine w_I0 ?_ | with_reducible refine w_U ?_ | with_reducible refine w_eqI ?_ | with_reducible refine w_neI ?_
  | with_reducible refine w_cons ?_ | with_reducible refine w_nil ?_ | with_reducible refine w_gn ?_ | with_reducible refine w_gsub ?_ | with_reducible refine w_and ?_ | with_reducible refine w_or ?_ | with_reducible refine w_not ?_
  | with_reducible refine w_andV ?_ | with_reducible refine w_orV ?_ | with_reducible refine w_notV ?_ | with_reducible refine w_if ?_ | with_reducible refine w_cb ?_ | with_reducible refine w_call ?_ | with_reducible refine w_lst ?_ | with_reducible refine w_tup ?_
  | with_reducible refine w_sl ?_ | with_reducible refine w_noPart ?_ | with_reducible refine w_part ?_ | with_reducible refine w_ex1 ?_ | with_reducible refine w_exb ?_ | with_reducible refine w_intB ?_ | with_reducible refine w_intI ?_ | with_reducible refine w_abs ?_)
local macro_rules | `(tactic| walk_at "rv ix") => `(tactic| ((with_reducible show rIxL _ _ _ _ _); refine' w_ixL (sq_lst ?ha) ?hb ?_; (case ha => first | exact upd_same | assumption); (case hb => first | exact rfl | assumption)))
local macro_rules | `(tactic| walk_at "rv ar") => `(tactic| first
  | (refine' w_I ?hc ?_; (case hc => first | (show (0 : Int) < _; first | assumption | decide | omega) | exact pow_c (by decide) (by decide) (by first | decide | omega) (by first | decide | omega) | exact mul_r (by first | decide | omega) (by first | decide | omega) | exact mul_l (by first | decide | omega) (by first | decide | omega) | exact divw (by first | assumption | decide | omega) (by first | assumption | decide | omega))))
local macro_rules | `(tactic| walk_at "rv go") => `(tactic| repeat first | walk_at "rv st" | walk_at "rv ix" | ((with_reducible show rI _ _ _ _ _ _); walk_at "rv ar"))
end Rv
/-! The head's tests of the classes Profile and Ratio. -/
namespace Rv
open PySem PySem.Spec PyProof.Rows L2
end Rv
namespace Rv
open PySem PySem.Spec PyProof.Rows L2
local macro_rules | `(tactic| walk_at "rv st") => `(tactic| first
  | with_reducible refine iteT ?_ | with_reducible refine iteF ?_ | with_reducible refine w_nx ?_ | with_reducible refine w_yes ?_ | with_reducible refine w_rt ?_ | with_reducible refine iteNT ?_ | with_reducible refine iteNF ?_ | with_reducible refine iteNRf ?_ | with_reducible refine iteRf ?_ | with_reducible refine w_seqA ?_ | with_reducible refine w_seqD ?_ | with_reducible refine w_seqP ?_ | with_reducible refine w_asg ?_ | with_reducible refine w_ret ?_ | with_reducible refine w_drop ?_ | with_reducible refine w_ifs ?_ | with_reducible refine w_next ?_ | with_reducible refine w_par ?_
  | with_reducible refine w_op ?_ | with_reducible refine w_un ?_ | ((with_reducible show tVar _ _ _ _); refine' w_var ?hv ?_; (case hv => exact rfl)) | with_reducible refine w_c ?_ | with_reducible refine w_test ?_ | with_reducible refine w_tB ?_
  | with_reducible refine w_bl ?_ | with_reducible refine w_I0 ?_ | with_reducible refine w_U ?_ | with_reducible refine w_eqI ?_ | with_reducible refine w_neI ?_
  | with_reducible refine w_cons ?_ | with_reducible refine w_nil ?_ | with_reducible refine w_gn ?_ | with_reducible refine w_gsub ?_ | with_reducible refine w_and ?_ | with_reducible refine w_or ?_ | with_reducible refine w_not ?_
  | with_reducible refine w_andV ?_ | with_reducible refine w_orV ?_ | with_reducible refine w_notV ?_ | with_reducible refine w_if ?_ | with_reducible refine w_cb ?_ | with_reducible refine w_call ?_ | with_reducible refine w_lst ?_ | with_reducible refine w_tup ?_
  | with_reducible refine w_sl ?_ | with_reducible refine w_noPart ?_ | with_reducible refine w_part ?_ | with_reducible refine w_ex1 ?_ | with_reducible refine w_exb ?_ | with_reducible refine w_intB ?_ | with_reducible refine w_intI ?_ | with_reducible refine w_abs ?_)
local macro_rules | `(tactic| walk_at "rv ix") => `(tactic| ((with_reducible show rIxL _ _ _ _ _); refine' w_ixL (sq_lst ?ha) ?hb ?_; (case ha => first | exact upd_same | assumption); (case hb => first | exact rfl | assumption)))
local macro_rules | `(tactic| walk_at "rv ar") => `(tactic| first
  | (refine' w_I ?hc ?_; (case hc => first | (show (0 : Int) < _; first | assumption | decide | omega) | exact pow_c (by decide) (by decide) (by first | decide | omega) (by first | decide | omega) | exact mul_r (by first | decide | omega) (by first | decide | omega) | exact mul_l (by first | decide | omega) (by first | decide | omega) | exact divw (by first | assumption | decide | omega) (by first | assumption | decide | omega))))
local macro_rules | `(tactic| walk_at "rv go") => `(tactic| repeat first | walk_at "rv st" | walk_at "rv ix" | ((with_reducible show rI _ _ _ _ _ _); walk_at "rv ar"))
end Rv
namespace Rv
open PySem PySem.Spec PyProof.Rows L2
local macro_rules | `(tactic| walk_at "rv st") => `(tactic| first
  | with_reducible refine iteT ?_ | with_reducible refine iteF ?_ | with_reducible refine w_nx ?_ | with_reducible refine w_yes ?_ | with_reducible refine w_rt ?_ | with_reducible refine iteNT ?_ | with_reducible refine iteNF ?_ | with_reducible refine iteNRf ?_ | with_reducible refine iteRf ?_ | with_reducible refine w_seqA ?_ | with_reducible refine w_seqD ?_ | with_reducible refine w_seqP ?_ | with_reducible refine w_asg ?_ | with_reducible refine w_ret ?_ | with_reducible refine w_drop ?_ | with_reducible refine w_ifs ?_ | with_reducible refine w_next ?_ | with_reducible refine w_par ?_
  | with_reducible refine w_op ?_ | with_reducible refine w_un ?_ | ((with_reducible show tVar _ _ _ _); refine' w_var ?hv ?_; (case hv => exact rfl)) | with_reducible refine w_c ?_ | with_reducible refine w_test ?_ | with_reducible refine w_tB ?_
  | with_reducible refine w_bl ?_ | with_reducible refine w_I0 ?_ | with_reducible refine w_U ?_ | with_reducible refine w_eqI ?_ | with_reducible refine w_neI ?_
  | with_reducible refine w_cons ?_ | with_reducible refine w_nil ?_ | with_reducible refine w_gn ?_ | with_reducible refine w_gsub ?_ | with_reducible refine w_and ?_ | with_reducible refine w_or ?_ | with_reducible refine w_not ?_
  | with_reducible refine w_andV ?_ | with_reducible refine w_orV ?_ | with_reducible refine w_notV ?_ | with_reducible refine w_if ?_ | with_reducible refine w_cb ?_ | with_reducible refine w_call ?_ | with_reducible refine w_lst ?_ | with_reducible refine w_tup ?_
  | with_reducible refine w_sl ?_ | with_reducible refine w_noPart ?_ | with_reducible refine w_part ?_ | with_reducible refine w_ex1 ?_ | with_reducible refine w_exb ?_ | with_reducible refine w_intB ?_ | with_reducible refine w_intI ?_ | with_reducible refine w_abs ?_)
local macro_rules | `(tactic| walk_at "rv ix") => `(tactic| ((with_reducible show rIxL _ _ _ _ _); refine' w_ixL (sq_lst ?ha) ?hb ?_; (case ha => first | exact upd_same | assumption); (case hb => first | exact rfl | assumption)))
local macro_rules | `(tactic| walk_at "rv ar") => `(tactic| first
  | (refine' w_I ?hc ?_; (case hc => first | (show (0 : Int) < _; first | assumption | decide | omega) | exact pow_c (by decide) (by decide) (by first | decide | omega) (by first | decide | omega) | exact mul_r (by first | decide | omega) (by first | decide | omega) | exact mul_l (by first | decide | omega) (by first | decide | omega) | exact divw (by first | assumption | decide | omega) (by first | assumption | decide | omega))))
local macro_rules | `(tactic| walk_at "rv go") => `(tactic| repeat first | walk_at "rv st" | walk_at "rv ix" | ((with_reducible show rI _ _ _ _ _ _); walk_at "rv ar"))
end Rv
/-! Calls by keywords alone. -/
namespace Rv
open PySem PySem.Spec PyProof.Rows L2
end Rv
/-! Defs that are run where no guard is under way: what repr of lists and tuples asks. -/
namespace Rv
open PySem PySem.Spec PyProof.Rows L2
end Rv
/-! Texts of lists of ints, and of own instances whose def makes a text. -/
namespace Rv
open PySem PySem.Spec PyProof.Rows L2
end Rv
/-! t[::-1] of a tuple. -/
namespace Rv
open PySem PySem.Spec PyProof.Rows L2
end Rv
/-! Comparisons of an int with an instance of an own class: the int declines, the class's own def answers; own comparisons with values of any kind. -/
namespace Rv
open PySem PySem.Spec PyProof.Rows L2
end Rv
/-! Own comparisons with values of any kind, in both orders. -/
namespace Rv
open PySem PySem.Spec PyProof.Rows L2
/-! lowest terms -/
end Rv
/-! != of instances with an own == and no own !=; + of two own instances. -/
namespace PySem.W
open PySem PySem.Spec PyProof.Rows
end PySem.W
namespace Rv
open PySem PySem.Spec PyProof.Rows L2
end Rv
/-! Base.__init__(self, ..) where Base is an own class under ValueError that has no __init__ of its own. -/
namespace Rv
open PySem PySem.Spec PyProof.Rows L2
end Rv
/-! Own exceptions under any base of the standard ones: fields set in __init__. -/
namespace Rv
open PySem PySem.W PySem.Calls PyProof.Rows PySem.HandSPX Builtin Builtin.ObjectAttr
end Rv
namespace Rv
open PySem PySem.Spec PyProof.Rows L2
/-! readings and rules -/
end Rv
/-! A test of the written part: is the class at C such an exception class. -/
namespace Rv
open PySem PySem.Spec PyProof.Rows L2
/-- own classes, then the standard class's mro -/
def tlB (bmB : List Value) : List Value → Bool
  | .ref _ :: r => tlB bmB r
  | l => decide (l = bmB)
def cxB (K : PySem.W.Frag) (C : Addr) (newId : String) (bmB : List Value) : Bool := match K.lookup C with
  | some ⟨.type m, _, .cls z, sl⟩ => decide (m = "type") && (match z.mro, sl.toList with
    | .ref D :: r, [_, _, _, _, some (.builtin n), _] => decide (D = C) && (decide (n = newId) && (!z.hasDel && (z.hasDict && tlB bmB r)))
    | _, _ => false)
  | _ => false
/-- all of it by one test -/
def oxB (K : PySem.W.Frag) (x : Str) (newId : String) (bmB : List Value) : Bool := cxB K (He.ga K x) newId bmB && (He.eqO (PySem.W.findIn K (.ref (He.ga K x)) "__setattr__") (some (some (.builtin "object.__setattr__"))) &&
  (decide (PySem.W.subIn K (.ref (He.ga K x)) (.type "BaseException") = some true) && (decide (PySem.W.typeIn K (.ref (He.ga K x)) = some (.type "type")) && PySem.W.keepIn K (.ref (He.ga K x)))))
/-- an own Base without an __init__ -/
def bgB (K : PySem.W.Frag) (x : Str) (i : String) : Bool := PySem.W.readsIn K (He.ga K x) (.type "type") && (He.eqO (PySem.W.specialIn K (.ref (He.ga K x)) "__getattribute__") (some (some (.builtin "type.__getattribute__"))) &&
  (PySem.W.handedIn (.builtin i) && (match PySem.W.findCls K (.ref (He.ga K x)) (.type "type") "__init__" with
    | some (.val (.builtin n)) => decide (n = i)
    | _ => false)))
end Rv
namespace Rv
open PySem PySem.Spec PyProof.Rows L2
/-! exceptions of own classes: raised in defs, caught in the law -/
/-! .. at the state in which the call stands -/
abbrev bm_ValueError : List Value := [.type "ValueError", .type "Exception", .type "BaseException", .type "object"]
def ecB (K : PySem.W.Frag) (x : Str) : Bool := He.eqO (PySem.W.findIn K (.ref (He.ga K x)) "__getattribute__") (some (some (.builtin "BaseException.__getattribute__"))) && (He.eqO (PySem.W.findIn K (.ref (He.ga K x)) "__getattr__") (some none) &&
  (decide (PySem.W.subIn K (.ref (He.ga K x)) (.type "BaseException") = some true) && (PySem.W.hasDictIn K (He.ga K x) && (He.eqO (PySem.W.findIn K (.ref (He.ga K x)) "__class__") (some (some (.builtin "object.__class__"))) &&
  (He.eqO (PySem.W.specialIn K (.builtin "object.__class__") "__get__") (some (some (.builtin "getset_descriptor.__get__"))) && (decide (PySem.W.takesIn K (.builtin "object.__class__") = some true) && decide (PySem.W.mroIn K (He.ga K x) (.type "object") = some true)))))))
end Rv
namespace Rv
open PySem PySem.Spec PyProof.Rows L2
end Rv
/-! try with several clauses 'except C as n' of one name n. -/
namespace Rv
open PySem PySem.Spec PyProof.Rows L2
end Rv
/-! Own defs that are called while an exception is handled (they raise nothing themselves), and repr there. -/
namespace Rv
open PySem PySem.Spec PyProof.Rows L2 L2H
end Rv
namespace Rv
open PySem PySem.Spec PyProof.Rows L2
local macro_rules | `(tactic| walk_at "rv st") => `(tactic| first
  | with_reducible refine iteT ?_ | with_reducible refine iteF ?_ | with_reducible refine w_nx ?_ | with_reducible refine w_yes ?_ | with_reducible refine w_rt ?_ | with_reducible refine iteNT ?_ | with_reducible refine iteNF ?_ | with_reducible refine iteNRf ?_ | with_reducible refine iteRf ?_ | with_reducible refine w_seqA ?_ | with_reducible refine w_seqD ?_ | with_reducible refine w_seqP ?_ | with_reducible refine w_asg ?_ | with_reducible refine w_ret ?_ | with_reducible refine w_drop ?_ | with_reducible refine w_ifs ?_ | with_reducible refine w_next ?_ | with_reducible refine w_par ?_
  | with_reducible refine w_op ?_ | with_reducible refine w_un ?_ | ((with_reducible show tVar _ _ _ _); refine' w_var ?hv ?_; (case hv => exact rfl)) | with_reducible refine w_c ?_ | with_reducible refine w_test ?_ | with_reducible refine w_tB ?_
  | with_reducible refine w_bl ?_ | with_reducible refine w_I0 ?_ | with_reducible refine w_U ?_ | with_reducible refine w_eqI ?_ | with_reducible refine w_neI ?_
  | with_reducible refine w_cons ?_ | with_reducible refine w_nil ?_ | with_reducible refine w_gn ?_ | with_reducible refine w_gsub ?_ | with_reducible refine w_and ?_ | with_reducible refine w_or ?_ | with_reducible refine w_not ?_
  | with_reducible refine w_andV ?_ | with_reducible refine w_orV ?_ | with_reducible refine w_notV ?_ | with_reducible refine w_if ?_ | with_reducible refine w_cb ?_ | with_reducible refine w_call ?_ | with_reducible refine w_lst ?_ | with_reducible refine w_tup ?_
  | with_reducible refine w_sl ?_ | with_reducible refine w_noPart ?_ | with_reducible refine w_part ?_ | with_reducible refine w_ex1 ?_ | with_reducible refine w_exb ?_ | with_reducible refine w_intB ?_ | with_reducible refine w_intI ?_ | with_reducible refine w_abs ?_)
local macro_rules | `(tactic| walk_at "rv ix") => `(tactic| ((with_reducible show rIxL _ _ _ _ _); refine' w_ixL (sq_lst ?ha) ?hb ?_; (case ha => first | exact upd_same | assumption); (case hb => first | exact rfl | assumption)))
local macro_rules | `(tactic| walk_at "rv ar") => `(tactic| first
  | (refine' w_I ?hc ?_; (case hc => first | (show (0 : Int) < _; first | assumption | decide | omega) | exact pow_c (by decide) (by decide) (by first | decide | omega) (by first | decide | omega) | exact mul_r (by first | decide | omega) (by first | decide | omega) | exact mul_l (by first | decide | omega) (by first | decide | omega) | exact divw (by first | assumption | decide | omega) (by first | assumption | decide | omega))))
local macro_rules | `(tactic| walk_at "rv go") => `(tactic| repeat first | walk_at "rv st" | walk_at "rv ix" | ((with_reducible show rI _ _ _ _ _ _); walk_at "rv ar"))
end Rv
namespace Rv
open PySem PySem.Spec PyProof.Rows L2
local macro_rules | `(tactic| walk_at "rv st") => `(tactic| first
  | with_reducible refine iteT ?_ | with_reducible refine iteF ?_ | with_reducible refine w_nx ?_ | with_reducible refine w_yes ?_ | with_reducible refine w_rt ?_ | with_reducible refine iteNT ?_ | with_reducible refine iteNF ?_ | with_reducible refine iteNRf ?_ | with_reducible refine iteRf ?_ | with_reducible refine w_seqA ?_ | with_reducible refine w_seqD ?_ | with_reducible refine w_seqP ?_ | with_reducible refine w_asg ?_ | with_reducible refine w_ret ?_ | with_reducible refine w_drop ?_ | with_reducible refine w_ifs ?_ | with_reducible refine w_next ?_ | with_reducible refine w_par ?_
  | with_reducible refine w_op ?_ | with_reducible refine w_un ?_ | ((with_reducible show tVar _ _ _ _); refine' w_var ?hv ?_; (case hv => exact rfl)) | with_reducible refine w_c ?_ | with_reducible refine w_test ?_ | with_reducible refine w_tB ?_
  | with_reducible refine w_bl ?_ | with_reducible refine w_I0 ?_ | with_reducible refine w_U ?_ | with_reducible refine w_eqI ?_ | with_reducible refine w_neI ?_
  | with_reducible refine w_cons ?_ | with_reducible refine w_nil ?_ | with_reducible refine w_gn ?_ | with_reducible refine w_gsub ?_ | with_reducible refine w_and ?_ | with_reducible refine w_or ?_ | with_reducible refine w_not ?_
  | with_reducible refine w_andV ?_ | with_reducible refine w_orV ?_ | with_reducible refine w_notV ?_ | with_reducible refine w_if ?_ | with_reducible refine w_cb ?_ | with_reducible refine w_call ?_ | with_reducible refine w_lst ?_ | with_reducible refine w_tup ?_
  | with_reducible refine w_sl ?_ | with_reducible refine w_noPart ?_ | with_reducible refine w_part ?_ | with_reducible refine w_ex1 ?_ | with_reducible refine w_exb ?_ | with_reducible refine w_intB ?_ | with_reducible refine w_intI ?_ | with_reducible refine w_abs ?_)
local macro_rules | `(tactic| walk_at "rv ix") => `(tactic| ((with_reducible show rIxL _ _ _ _ _); refine' w_ixL (sq_lst ?ha) ?hb ?_; (case ha => first | exact upd_same | assumption); (case hb => first | exact rfl | assumption)))
local macro_rules | `(tactic| walk_at "rv ar") => `(tactic| first
  | (refine' w_I ?hc ?_; (case hc => first | (show (0 : Int) < _; first | assumption | decide | omega) | exact pow_c (by decide) (by decide) (by first | decide | omega) (by first | decide | omega) | exact mul_r (by first | decide | omega) (by first | decide | omega) | exact mul_l (by first | decide | omega) (by first | decide | omega) | exact divw (by first | assumption | decide | omega) (by first | assumption | decide | omega))))
local macro_rules | `(tactic| walk_at "rv go") => `(tactic| repeat first | walk_at "rv st" | walk_at "rv ix" | ((with_reducible show rI _ _ _ _ _ _); walk_at "rv ar"))
end Rv
namespace Rv
open PySem PySem.Spec PyProof.Rows L2
local macro_rules | `(tactic| walk_at "rv st") => `(tactic| first
  | with_reducible refine iteT ?_ | with_reducible refine iteF ?_ | with_reducible refine w_nx ?_ | with_reducible refine w_yes ?_ | with_reducible refine w_rt ?_ | with_reducible refine iteNT ?_ | with_reducible refine iteNF ?_ | with_reducible refine iteNRf ?_ | with_reducible refine iteRf ?_ | with_reducible refine w_seqA ?_ | with_reducible refine w_seqD ?_ | with_reducible refine w_seqP ?_ | with_reducible refine w_asg ?_ | with_reducible refine w_ret ?_ | with_reducible refine w_drop ?_ | with_reducible refine w_ifs ?_ | with_reducible refine w_next ?_ | with_reducible refine w_par ?_
  | with_reducible refine w_op ?_ | with_reducible refine w_un ?_ | ((with_reducible show tVar _ _ _ _); refine' w_var ?hv ?_; (case hv => exact rfl)) | with_reducible refine w_c ?_ | with_reducible refine w_test ?_ | with_reducible refine w_tB ?_
  | with_reducible refine w_bl ?_ | with_reducible refine w_I0 ?_ | with_reducible refine w_U ?_ | with_reducible refine w_eqI ?_ | with_reducible refine w_neI ?_
  | with_reducible refine w_cons ?_ | with_reducible refine w_nil ?_ | with_reducible refine w_gn ?_ | with_reducible refine w_gsub ?_ | with_reducible refine w_and ?_ | with_reducible refine w_or ?_ | with_reducible refine w_not ?_
  | with_reducible refine w_andV ?_ | with_reducible refine w_orV ?_ | with_reducible refine w_notV ?_ | with_reducible refine w_if ?_ | with_reducible refine w_cb ?_ | with_reducible refine w_call ?_ | with_reducible refine w_lst ?_ | with_reducible refine w_tup ?_
  | with_reducible refine w_sl ?_ | with_reducible refine w_noPart ?_ | with_reducible refine w_part ?_ | with_reducible refine w_ex1 ?_ | with_reducible refine w_exb ?_ | with_reducible refine w_intB ?_ | with_reducible refine w_intI ?_ | with_reducible refine w_abs ?_)
local macro_rules | `(tactic| walk_at "rv ix") => `(tactic| ((with_reducible show rIxL _ _ _ _ _); refine' w_ixL (sq_lst ?ha) ?hb ?_; (case ha => first | exact upd_same | assumption); (case hb => first | exact rfl | assumption)))
local macro_rules | `(tactic| walk_at "rv ar") => `(tactic| first
  | (refine' w_I ?hc ?_; (case hc => first | (show (0 : Int) < _; first | assumption | decide | omega) | exact pow_c (by decide) (by decide) (by first | decide | omega) (by first | decide | omega) | exact mul_r (by first | decide | omega) (by first | decide | omega) | exact mul_l (by first | decide | omega) (by first | decide | omega) | exact divw (by first | assumption | decide | omega) (by first | assumption | decide | omega))))
local macro_rules | `(tactic| walk_at "rv go") => `(tactic| repeat first | walk_at "rv st" | walk_at "rv ix" | ((with_reducible show rI _ _ _ _ _ _); walk_at "rv ar"))
/-- the text of a fraction's repr -/
def rtext (t b : Int) : Str := ((((("Ratio(" : Str) ++ (toString t : String)) ++ (", " : Str)) ++ (toString b : String)) ++ (")" : Str))
/-- what is told of the class Ratio beside RCls -/
def RKi (K : PySem.W.Frag) (C : Addr) : Prop := PySem.W.kitOne K (.ref C) (.type "int") = some false
/-- a value that the law hands in, and its repr's text -/
inductive Odd (C : Addr) (H : Hp) : V → Str → Prop where
  | non : Odd C H .non (PyData.none).shown
  | bl (b : Bool) : Odd C H (.bl b) (PyData.bool b).shown
  | int (i : Int) (h : i.natAbs < 10 ^ 40) : Odd C H (.int i) (PyData.int i).shown
  | str (x : Str) (h1 : PyData.strOk (reprText x) = true) (h2 : (reprText x).length ≤ 1000) : Odd C H (.str x) (PyData.str x).shown
  | tup {a : Addr} (zs : List Int) (h : H a = some (.tup (zs.map V.int))) (hl : zs.length ≤ 1) (hz : ∀ z ∈ zs, z.natAbs < 10 ^ 32) (h1 : PyData.strOk (PyData.tuple (zs.map PyData.int)).shown = true) (h2 : (PyData.tuple (zs.map PyData.int)).shown.length ≤ 1000) : Odd C H (.ref a) (PyData.tuple (zs.map PyData.int)).shown
  | lst {a : Addr} (zs : List Int) (h : H a = some (.lst (zs.map V.int))) (hl : zs.length ≤ 1) (hz : ∀ z ∈ zs, z.natAbs < 10 ^ 32) (h1 : PyData.strOk (PyData.list (zs.map PyData.int)).shown = true) (h2 : (PyData.list (zs.map PyData.int)).shown.length ≤ 1000) : Odd C H (.ref a) (PyData.list (zs.map PyData.int)).shown
  | rat {a : Addr} (t b : Int) (h : RatAt C H a t b) (ht : t.natAbs < 10 ^ 40) (hb : b.natAbs < 10 ^ 40) : Odd C H (.ref a) (rtext t b)
theorem big_log {z : Int} (h : z.natAbs < 10 ^ 40) : z.natAbs.log2 < 1920 := by
  by_cases h0 : z.natAbs = 0
  · rw [h0]; decide
  · exact (Nat.log2_lt h0).mpr (Nat.lt_of_lt_of_le h (by decide))
theorem big_text {z : Int} (h : z.natAbs < 10 ^ 40) : (Str.ofString (toString z)).length ≤ 41 := by
  have := int_text_length_le10 (k := 40) (by decide) h
  rw [PySem.ofString_length]
  exact this
theorem Odd.wh {K : PySem.W.Frag} {C : Addr} {H : Hp} {v : V} {y : Str} (R : RCls K C) (k : RKi K C) (o : Odd C H v y) : Whole K H v := by
  cases o with
  | non => exact .other (t := .type "NoneType") (.base .non) (kit_ty (by decide +kernel)) fun i z => nomatch z
  | bl b => exact .bl b
  | int i h => exact .int i
  | str x h1 h2 => exact .other (t := .type "str") (.base (.str x)) (kit_ty (by decide +kernel)) fun i z => nomatch z
  | tup zs h hl hz h1 h2 => exact .other (t := .type "tuple") (.base (.tup h)) (kit_ty (by decide +kernel)) fun i z => nomatch z
  | lst zs h hl hz h1 h2 => exact .other (t := .type "list") (.base (.lst h)) (kit_ty (by decide +kernel)) fun i z => nomatch z
  | rat t b h ht hb =>
    obtain ⟨l, dx, h⟩ := h
    exact .other (t := .ref C) (.base (.ins h R.cl R.cA R.cG R.cT R.cM)) k fun i z => nomatch z
end Rv
namespace Rv
open PySem PySem.Spec PyProof.Rows L2
local macro_rules | `(tactic| walk_at "rv st") => `(tactic| first
  | with_reducible refine iteT ?_ | with_reducible refine iteF ?_ | with_reducible refine w_nx ?_ | with_reducible refine w_yes ?_ | with_reducible refine w_rt ?_ | with_reducible refine iteNT ?_ | with_reducible refine iteNF ?_ | with_reducible refine iteNRf ?_ | with_reducible refine iteRf ?_ | with_reducible refine w_seqA ?_ | with_reducible refine w_seqD ?_ | with_reducible refine w_seqP ?_ | with_reducible refine w_asg ?_ | with_reducible refine w_ret ?_ | with_reducible refine w_drop ?_ | with_reducible refine w_ifs ?_ | with_reducible refine w_next ?_ | with_reducible refine w_par ?_
  | with_reducible refine w_op ?_ | with_reducible refine w_un ?_ | ((with_reducible show tVar _ _ _ _); refine' w_var ?hv ?_; (case hv => exact rfl)) | with_reducible refine w_c ?_ | with_reducible refine w_test ?_ | with_reducible refine w_tB ?_
  | with_reducible refine w_bl ?_ | with_reducible refine w_I0 ?_ | with_reducible refine w_U ?_ | with_reducible refine w_eqI ?_ | with_reducible refine w_neI ?_
  | with_reducible refine w_cons ?_ | with_reducible refine w_nil ?_ | with_reducible refine w_gn ?_ | with_reducible refine w_gsub ?_ | with_reducible refine w_and ?_ | with_reducible refine w_or ?_ | with_reducible refine w_not ?_
  | with_reducible refine w_andV ?_ | with_reducible refine w_orV ?_ | with_reducible refine w_notV ?_ | with_reducible refine w_if ?_ | with_reducible refine w_cb ?_ | with_reducible refine w_call ?_ | with_reducible refine w_lst ?_ | with_reducible refine w_tup ?_
  | with_reducible refine w_sl ?_ | with_reducible refine w_noPart ?_ | with_reducible refine w_part ?_ | with_reducible refine w_ex1 ?_ | with_reducible refine w_exb ?_ | with_reducible refine w_intB ?_ | with_reducible refine w_intI ?_ | with_reducible refine w_abs ?_)
local macro_rules | `(tactic| walk_at "rv ix") => `(tactic| ((with_reducible show rIxL _ _ _ _ _); refine' w_ixL (sq_lst ?ha) ?hb ?_; (case ha => first | exact upd_same | assumption); (case hb => first | exact rfl | assumption)))
local macro_rules | `(tactic| walk_at "rv ar") => `(tactic| first
  | (refine' w_I ?hc ?_; (case hc => first | (show (0 : Int) < _; first | assumption | decide | omega) | exact pow_c (by decide) (by decide) (by first | decide | omega) (by first | decide | omega) | exact mul_r (by first | decide | omega) (by first | decide | omega) | exact mul_l (by first | decide | omega) (by first | decide | omega) | exact divw (by first | assumption | decide | omega) (by first | assumption | decide | omega))))
local macro_rules | `(tactic| walk_at "rv go") => `(tactic| repeat first | walk_at "rv st" | walk_at "rv ix" | ((with_reducible show rI _ _ _ _ _ _); walk_at "rv ar"))
end Rv
namespace Rv
open PySem PySem.Spec PyProof.Rows L2
local macro_rules | `(tactic| walk_at "rv st") => `(tactic| first
  | with_reducible refine iteT ?_ | with_reducible refine iteF ?_ | with_reducible refine w_nx ?_ | with_reducible refine w_yes ?_ | with_reducible refine w_rt ?_ | with_reducible refine iteNT ?_ | with_reducible refine iteNF ?_ | with_reducible refine iteNRf ?_ | with_reducible refine iteRf ?_ | with_reducible refine w_seqA ?_ | with_reducible refine w_seqD ?_ | with_reducible refine w_seqP ?_ | with_reducible refine w_asg ?_ | with_reducible refine w_ret ?_ | with_reducible refine w_drop ?_ | with_reducible refine w_ifs ?_ | with_reducible refine w_next ?_ | with_reducible refine w_par ?_
  | with_reducible refine w_op ?_ | with_reducible refine w_un ?_ | ((with_reducible show tVar _ _ _ _); refine' w_var ?hv ?_; (case hv => exact rfl)) | with_reducible refine w_c ?_ | with_reducible refine w_test ?_ | with_reducible refine w_tB ?_
  | with_reducible refine w_bl ?_ | with_reducible refine w_I0 ?_ | with_reducible refine w_U ?_ | with_reducible refine w_eqI ?_ | with_reducible refine w_neI ?_
  | with_reducible refine w_cons ?_ | with_reducible refine w_nil ?_ | with_reducible refine w_gn ?_ | with_reducible refine w_gsub ?_ | with_reducible refine w_and ?_ | with_reducible refine w_or ?_ | with_reducible refine w_not ?_
  | with_reducible refine w_andV ?_ | with_reducible refine w_orV ?_ | with_reducible refine w_notV ?_ | with_reducible refine w_if ?_ | with_reducible refine w_cb ?_ | with_reducible refine w_call ?_ | with_reducible refine w_lst ?_ | with_reducible refine w_tup ?_
  | with_reducible refine w_sl ?_ | with_reducible refine w_noPart ?_ | with_reducible refine w_part ?_ | with_reducible refine w_ex1 ?_ | with_reducible refine w_exb ?_ | with_reducible refine w_intB ?_ | with_reducible refine w_intI ?_ | with_reducible refine w_abs ?_)
local macro_rules | `(tactic| walk_at "rv ix") => `(tactic| ((with_reducible show rIxL _ _ _ _ _); refine' w_ixL (sq_lst ?ha) ?hb ?_; (case ha => first | exact upd_same | assumption); (case hb => first | exact rfl | assumption)))
local macro_rules | `(tactic| walk_at "rv ar") => `(tactic| first
  | (refine' w_I ?hc ?_; (case hc => first | (show (0 : Int) < _; first | assumption | decide | omega) | exact pow_c (by decide) (by decide) (by first | decide | omega) (by first | decide | omega) | exact mul_r (by first | decide | omega) (by first | decide | omega) | exact mul_l (by first | decide | omega) (by first | decide | omega) | exact divw (by first | assumption | decide | omega) (by first | assumption | decide | omega))))
local macro_rules | `(tactic| walk_at "rv go") => `(tactic| repeat first | walk_at "rv st" | walk_at "rv ix" | ((with_reducible show rI _ _ _ _ _ _); walk_at "rv ar"))
end Rv
namespace RvM
open PySem PySem.Spec PyProof.Rows L2 Rv
local macro_rules | `(tactic| walk_at "rv st") => `(tactic| first
  | with_reducible refine iteT ?_ | with_reducible refine iteF ?_ | with_reducible refine w_nx ?_ | with_reducible refine w_yes ?_ | with_reducible refine w_rt ?_ | with_reducible refine iteNT ?_ | with_reducible refine iteNF ?_ | with_reducible refine iteNRf ?_ | with_reducible refine iteRf ?_ | with_reducible refine w_seqA ?_ | with_reducible refine w_seqD ?_ | with_reducible refine w_seqP ?_ | with_reducible refine w_asg ?_ | with_reducible refine w_ret ?_ | with_reducible refine w_drop ?_ | with_reducible refine w_ifs ?_ | with_reducible refine w_next ?_ | with_reducible refine w_par ?_
  | with_reducible refine w_op ?_ | with_reducible refine w_un ?_ | ((with_reducible show tVar _ _ _ _); refine' w_var ?hv ?_; (case hv => exact rfl)) | with_reducible refine w_c ?_ | with_reducible refine w_test ?_ | with_reducible refine w_tB ?_
  | with_reducible refine w_bl ?_ | with_reducible refine w_I0 ?_ | with_reducible refine w_U ?_ | with_reducible refine w_eqI ?_ | with_reducible refine w_neI ?_
  | with_reducible refine w_cons ?_ | with_reducible refine w_nil ?_ | with_reducible refine w_gn ?_ | with_reducible refine w_gsub ?_ | with_reducible refine w_and ?_ | with_reducible refine w_or ?_ | with_reducible refine w_not ?_
  | with_reducible refine w_andV ?_ | with_reducible refine w_orV ?_ | with_reducible refine w_notV ?_ | with_reducible refine w_if ?_ | with_reducible refine w_cb ?_ | with_reducible refine w_call ?_ | with_reducible refine w_lst ?_ | with_reducible refine w_tup ?_
  | with_reducible refine w_sl ?_ | with_reducible refine w_noPart ?_ | with_reducible refine w_part ?_ | with_reducible refine w_ex1 ?_ | with_reducible refine w_exb ?_ | with_reducible refine w_intB ?_ | with_reducible refine w_intI ?_ | with_reducible refine w_abs ?_)
local macro_rules | `(tactic| walk_at "rv ix") => `(tactic| ((with_reducible show rIxL _ _ _ _ _); refine' w_ixL (sq_lst ?ha) ?hb ?_; (case ha => first | exact upd_same | assumption); (case hb => first | exact rfl | assumption)))
local macro_rules | `(tactic| walk_at "rv ar") => `(tactic| first
  | (refine' w_I ?hc ?_; (case hc => first | (show (0 : Int) < _; first | assumption | decide | omega) | exact pow_c (by decide) (by decide) (by first | decide | omega) (by first | decide | omega) | exact mul_r (by first | decide | omega) (by first | decide | omega) | exact mul_l (by first | decide | omega) (by first | decide | omega) | exact divw (by first | assumption | decide | omega) (by first | assumption | decide | omega))))
local macro_rules | `(tactic| walk_at "rv go") => `(tactic| repeat first | walk_at "rv st" | walk_at "rv ix" | ((with_reducible show rI _ _ _ _ _ _); walk_at "rv ar"))
end RvM
/-! str, bool, abs and unary minus of own instances. -/
namespace PySem.W
open PySem PySem.Calls PyProof.Rows Builtin
end PySem.W
namespace Rv
open PySem PySem.Spec PyProof.Rows L2
end Rv
namespace Rv
open PySem PySem.Spec PyProof.Rows L2
local macro_rules | `(tactic| walk_at "rv st") => `(tactic| first
  | with_reducible refine iteT ?_ | with_reducible refine iteF ?_ | with_reducible refine w_nx ?_ | with_reducible refine w_yes ?_ | with_reducible refine w_rt ?_ | with_reducible refine iteNT ?_ | with_reducible refine iteNF ?_ | with_reducible refine iteNRf ?_ | with_reducible refine iteRf ?_ | with_reducible refine w_seqA ?_ | with_reducible refine w_seqD ?_ | with_reducible refine w_seqP ?_ | with_reducible refine w_asg ?_ | with_reducible refine w_ret ?_ | with_reducible refine w_drop ?_ | with_reducible refine w_ifs ?_ | with_reducible refine w_next ?_ | with_reducible refine w_par ?_
  | with_reducible refine w_op ?_ | with_reducible refine w_un ?_ | ((with_reducible show tVar _ _ _ _); refine' w_var ?hv ?_; (case hv => exact rfl)) | with_reducible refine w_c ?_ | with_reducible refine w_test ?_ | with_reducible refine w_tB ?_
  | with_reducible refine w_bl ?_ | with_reducible refine w_I0 ?_ | with_reducible refine w_U ?_ | with_reducible refine w_eqI ?_ | with_reducible refine w_neI ?_
  | with_reducible refine w_cons ?_ | with_reducible refine w_nil ?_ | with_reducible refine w_gn ?_ | with_reducible refine w_gsub ?_ | with_reducible refine w_and ?_ | with_reducible refine w_or ?_ | with_reducible refine w_not ?_
  | with_reducible refine w_andV ?_ | with_reducible refine w_orV ?_ | with_reducible refine w_notV ?_ | with_reducible refine w_if ?_ | with_reducible refine w_cb ?_ | with_reducible refine w_call ?_ | with_reducible refine w_lst ?_ | with_reducible refine w_tup ?_
  | with_reducible refine w_sl ?_ | with_reducible refine w_noPart ?_ | with_reducible refine w_part ?_ | with_reducible refine w_ex1 ?_ | with_reducible refine w_exb ?_ | with_reducible refine w_intB ?_ | with_reducible refine w_intI ?_ | with_reducible refine w_abs ?_)
local macro_rules | `(tactic| walk_at "rv ix") => `(tactic| ((with_reducible show rIxL _ _ _ _ _); refine' w_ixL (sq_lst ?ha) ?hb ?_; (case ha => first | exact upd_same | assumption); (case hb => first | exact rfl | assumption)))
local macro_rules | `(tactic| walk_at "rv ar") => `(tactic| first
  | (refine' w_I ?hc ?_; (case hc => first | (show (0 : Int) < _; first | assumption | decide | omega) | exact pow_c (by decide) (by decide) (by first | decide | omega) (by first | decide | omega) | exact mul_r (by first | decide | omega) (by first | decide | omega) | exact mul_l (by first | decide | omega) (by first | decide | omega) | exact divw (by first | assumption | decide | omega) (by first | assumption | decide | omega))))
local macro_rules | `(tactic| walk_at "rv go") => `(tactic| repeat first | walk_at "rv st" | walk_at "rv ix" | ((with_reducible show rI _ _ _ _ _ _); walk_at "rv ar"))
end Rv
/-! repr of data with dicts in it. -/
namespace Rv
open PySem PySem.Spec PyProof.Rows L2
/-- at sysModules stands a dict -/
def sysB (K : PySem.W.Frag) : Bool := match List.lookup sysModules K with
  | some o => match o.data with
    | .dict .. => true
    | _ => false
  | none => false
mutual
/-- what v shows, dicts of ints among it -/
inductive Dq (K : PySem.W.Frag) (H : Hp) : V → PyData → Prop
  | non : Dq K H .non .none
  | bl (b : Bool) : Dq K H (.bl b) (.bool b)
  | int (i : Int) : Dq K H (.int i) (.int i)
  | str (x : Str) : Dq K H (.str x) (.str x)
  | lst {a : Addr} {xs : List V} {ds : List PyData} : SqL K H a xs → DqAll K H xs ds → Dq K H (.ref a) (.list ds)
  | tup {a : Addr} {xs : List V} {ds : List PyData} : SqT K H a xs → DqAll K H xs ds → Dq K H (.ref a) (.tuple ds)
  | dic0 {a : Addr} : H a = some (.dK []) → Dq K H (.ref a) (.dict [])
  | dic1 {a : Addr} {i j : Int} : H a = some (.dK [(.inl i, .int j)]) → Dq K H (.ref a) (.dict [(.int i, .int j)])
inductive DqAll (K : PySem.W.Frag) (H : Hp) : List V → List PyData → Prop
  | nil : DqAll K H [] []
  | cons {v : V} {vs : List V} {d : PyData} {ds : List PyData} : Dq K H v d → DqAll K H vs ds → DqAll K H (v :: vs) (d :: ds)
end
end Rv
namespace Rv
open PySem PySem.Spec PyProof.Rows L2
abbrev BigG : Int := 1000000000000000000000000000000
/-- a value as a row: a list's or a tuple's items, or no row -/
inductive RowV (K : PySem.W.Frag) (H : Hp) : V → Option (List V) → Prop where
  | row {a : Addr} {xs : List V} (h : RowAt K H a xs) : RowV K H (.ref a) (some xs)
  | other {v : V} {t : Value} (ty : TyX K H v t) (k : PySem.W.kitAny K t [.type "list", .type "tuple"] = some false) : RowV K H v none
/-- what a row check finds wrong: its shape (None), or the first place -/
def badR (lo hi l u : Int) : Option (List V) → Option V
  | none => some .non
  | some xs => if (decide (lo ≤ (xs.length : Int)) && decide ((xs.length : Int) ≤ hi)) = true then (if outs l u xs 0 = .non then none else some (outs l u xs 0)) else some .non
def Items (K : PySem.W.Frag) (H : Hp) (o : Option (List V)) : Prop := ∀ xs, o = some xs → ∀ x ∈ xs, Whole K H x
/-- what the law tells of Profile(v, w) -/
def dIx : V → PyData
  | .int i => .int i
  | _ => .none
def xm2B (K : PySem.W.Frag) : Bool :=
  let CH := Value.ref (He.ga K "InvalidProfile")
  let CW := Value.ref (He.ga K "InvalidWidths")
  let CR := Value.ref (He.ga K "RainError")
  decide (PySem.W.exmOne K CH CH = some true) && (decide (PySem.W.exmOne K CW CH = some false) && (decide (PySem.W.exmOne K CW CW = some true) && (decide (PySem.W.kitOne K CH CR = some true) && (decide (PySem.W.kitOne K CW CR = some true) && (decide (PySem.W.kitOne K CH (.type "ValueError") = some true) && (decide (PySem.W.kitOne K CW (.type "ValueError") = some true) && (decide (PySem.W.kitOne K CH CW = some false) && decide (PySem.W.kitOne K CW CH = some false))))))))
/-- a value that is no height and no width -/
inductive OdF (lo : Int) (H : Hp) : V → Prop where
  | non : OdF lo H .non
  | bl (b : Bool) : OdF lo H (.bl b)
  | s3 : OdF lo H (.str "3")
  | s0 : OdF lo H (.str "")
  | int (i : Int) (h : inI lo BigG (.int i) = false) (s : i.natAbs < 10 ^ 35) : OdF lo H (.int i)
  | t0 {a : Addr} (h : H a = some (.tup [])) : OdF lo H (.ref a)
  | l0 {a : Addr} (h : H a = some (.lst [])) : OdF lo H (.ref a)
  | t1 {a : Addr} (h : H a = some (.tup [.int 1])) : OdF lo H (.ref a)
  | d0 {a : Addr} (h : H a = some (.dK [])) : OdF lo H (.ref a)
/-- ys is xs with odd values at the places ps -/
structure Spo (lo : Int) (H : Hp) (xs : List Int) (ys : List V) (ps : List Int) : Prop where
  len : ys.length = xs.length
  pl : ps.length ≤ 3
  pr : ∀ p ∈ ps, 0 ≤ p ∧ p < (xs.length : Int)
  at_ : ∀ (i : Nat) (x : V), ys[i]? = some x → ((i : Int) ∈ ps ∧ OdF lo H x) ∨ (¬ (i : Int) ∈ ps ∧ ∃ z, xs[i]? = some z ∧ x = .int z)
/-- a value that is no row of lo to hi items -/
inductive WhF (lo hi : Int) (H : Hp) : V → Prop where
  | n7 : WhF lo hi H (.int 7)
  | bl (b : Bool) : WhF lo hi H (.bl b)
  | s11 : WhF lo hi H (.str "11")
  | s0 : WhF lo hi H (.str "")
  | d0 {a : Addr} (h : H a = some (.dK [])) : WhF lo hi H (.ref a)
  | d1 {a : Addr} (h : H a = some (.dK [(.inl 0, .int 1)])) : WhF lo hi H (.ref a)
  | ls {a : Addr} (n : Nat) (x : Int) (h : H a = some (.lst ((List.replicate n x).map V.int))) (b : (n : Int) < lo ∨ hi < (n : Int)) (n70 : n ≤ 70) (sx : x.natAbs < 10 ^ 35) : WhF lo hi H (.ref a)
  | tp {a : Addr} (n : Nat) (x : Int) (h : H a = some (.tup ((List.replicate n x).map V.int))) (b : (n : Int) < lo ∨ hi < (n : Int)) (n70 : n ≤ 70) (sx : x.natAbs < 10 ^ 35) : WhF lo hi H (.ref a)
local macro_rules | `(tactic| walk_at "rv st") => `(tactic| first
  | with_reducible refine iteT ?_ | with_reducible refine iteF ?_ | with_reducible refine w_nx ?_ | with_reducible refine w_yes ?_ | with_reducible refine w_rt ?_ | with_reducible refine iteNT ?_ | with_reducible refine iteNF ?_ | with_reducible refine iteNRf ?_ | with_reducible refine iteRf ?_ | with_reducible refine w_seqA ?_ | with_reducible refine w_seqD ?_ | with_reducible refine w_seqP ?_ | with_reducible refine w_asg ?_ | with_reducible refine w_ret ?_ | with_reducible refine w_drop ?_ | with_reducible refine w_ifs ?_ | with_reducible refine w_next ?_ | with_reducible refine w_par ?_
  | with_reducible refine w_op ?_ | with_reducible refine w_un ?_ | ((with_reducible show tVar _ _ _ _); refine' w_var ?hv ?_; (case hv => exact rfl)) | with_reducible refine w_c ?_ | with_reducible refine w_test ?_ | with_reducible refine w_tB ?_
  | with_reducible refine w_bl ?_ | with_reducible refine w_I0 ?_ | with_reducible refine w_U ?_ | with_reducible refine w_eqI ?_ | with_reducible refine w_neI ?_
  | with_reducible refine w_cons ?_ | with_reducible refine w_nil ?_ | with_reducible refine w_gn ?_ | with_reducible refine w_gsub ?_ | with_reducible refine w_and ?_ | with_reducible refine w_or ?_ | with_reducible refine w_not ?_
  | with_reducible refine w_andV ?_ | with_reducible refine w_orV ?_ | with_reducible refine w_notV ?_ | with_reducible refine w_if ?_ | with_reducible refine w_cb ?_ | with_reducible refine w_call ?_ | with_reducible refine w_lst ?_ | with_reducible refine w_tup ?_
  | with_reducible refine w_sl ?_ | with_reducible refine w_noPart ?_ | with_reducible refine w_part ?_ | with_reducible refine w_ex1 ?_ | with_reducible refine w_exb ?_ | with_reducible refine w_intB ?_ | with_reducible refine w_intI ?_ | with_reducible refine w_abs ?_)
local macro_rules | `(tactic| walk_at "rv ix") => `(tactic| ((with_reducible show rIxL _ _ _ _ _); refine' w_ixL (sq_lst ?ha) ?hb ?_; (case ha => first | exact upd_same | assumption); (case hb => first | exact rfl | assumption)))
local macro_rules | `(tactic| walk_at "rv ar") => `(tactic| first
  | (refine' w_I ?hc ?_; (case hc => first | (show (0 : Int) < _; first | assumption | decide | omega) | exact pow_c (by decide) (by decide) (by first | decide | omega) (by first | decide | omega) | exact mul_r (by first | decide | omega) (by first | decide | omega) | exact mul_l (by first | decide | omega) (by first | decide | omega) | exact divw (by first | assumption | decide | omega) (by first | assumption | decide | omega))))
local macro_rules | `(tactic| walk_at "rv go") => `(tactic| repeat first | walk_at "rv st" | walk_at "rv ix" | ((with_reducible show rI _ _ _ _ _ _); walk_at "rv ar"))
theorem badR_ok {lo hi l u : Int} {xs : List V} (h1 : lo ≤ (xs.length : Int)) (h2 : (xs.length : Int) ≤ hi) (h : outs l u xs 0 = .non) : badR lo hi l u (some xs) = none := by
  unfold badR
  show (if (decide (lo ≤ (xs.length : Int)) && decide ((xs.length : Int) ≤ hi)) = true then _ else _) = none
  rw [decide_eq_true h1, decide_eq_true h2, if_pos (show (true && true) = true from rfl), if_pos h]
theorem dp_ix {K : PySem.W.Frag} {H : Hp} {z : V} (h : z = .non ∨ ∃ i : Nat, z = .int (i : Int)) : Dp K H z (dIx z) := by
  rcases h with rfl | ⟨i, rfl⟩
  · exact .non
  · exact .int _
theorem dp5 {K : PySem.W.Frag} {H : Hp} {r : Addr} {x : Str} {z : V} {d : PyData} (h : H r = some (.tup [.str x, z, .bl true, .bl true, .bl false])) (hz : Dp K H z d) : Dp K H (.ref r) (.tuple [.str x, d, .bool true, .bool true, .bool false]) := .tup (sq_tup h) (.cons (.str _) (.cons hz (.cons (.bl _) (.cons (.bl _) (.cons (.bl _) .nil)))))
structure Gd (b k : Nat) (d : PyData) : Prop where
  sh : d.showable = true
  ls : d.leavesShort 50 = true
  bk : d.bulk ≤ b
  dp : d.depth ≤ k
theorem gd_int {i : Int} (h : i.natAbs < 10 ^ 35) : Gd 3 1 (.int i) := by
  have h40 : i.natAbs < 10 ^ 40 := Nat.lt_of_lt_of_le h (by decide)
  have t := big_text h40
  refine ⟨by simpa [PyData.showable] using big_log h40, ?_, by simp [PyData.bulk], by simp [PyData.depth]⟩
  simp only [PyData.leavesShort, decide_eq_true_eq]
  show (Str.ofString (toString i)).length ≤ 50
  omega
theorem gd_all {K : PySem.W.Frag} {H : Hp} {b k : Nat} : ∀ {ys : List V}, (∀ y ∈ ys, ∃ d, Dq K H y d ∧ Gd b k d) → ∃ ds, DqAll K H ys ds ∧ PyData.showableAll ds = true ∧ PyData.leavesShortAll 50 ds = true ∧ PyData.bulkAll ds ≤ (b + 1) * ys.length ∧ PyData.depthAll ds ≤ k
  | [], _ => ⟨[], .nil, by simp [PyData.showableAll], by simp [PyData.leavesShortAll], by simp [PyData.bulkAll], by simp [PyData.depthAll]⟩
  | y :: r, h => by
    obtain ⟨d, h1, g⟩ := h y List.mem_cons_self
    obtain ⟨ds, h2, g1, g2, g3, g4⟩ := gd_all (ys := r) fun z hz => h z (List.mem_cons_of_mem _ hz)
    refine ⟨d :: ds, .cons h1 h2, by simp [PyData.showableAll, g.sh, g1], by simp [PyData.leavesShortAll, g.ls, g2], ?_, ?_⟩
    · have := g.bk
      simp only [PyData.bulkAll, List.length_cons, Nat.mul_add]
      omega
    · have := g.dp
      simp only [PyData.depthAll]
      omega
theorem gd_lst {K : PySem.W.Frag} {H : Hp} {b k : Nat} {a : Addr} {ys : List V} (ha : H a = some (.lst ys)) (h : ∀ y ∈ ys, ∃ d, Dq K H y d ∧ Gd b k d) : ∃ d, Dq K H (.ref a) d ∧ Gd ((b + 1) * ys.length) (k + 1) d := by
  obtain ⟨ds, h2, g1, g2, g3, g4⟩ := gd_all h
  exact ⟨.list ds, .lst (sq_lst ha) h2, by simpa [PyData.showable] using g1, by simpa [PyData.leavesShort] using g2, by simpa [PyData.bulk] using g3, by simp only [PyData.depth]; omega⟩
theorem gd_tup {K : PySem.W.Frag} {H : Hp} {b k : Nat} {a : Addr} {ys : List V} (ha : H a = some (.tup ys)) (h : ∀ y ∈ ys, ∃ d, Dq K H y d ∧ Gd b k d) : ∃ d, Dq K H (.ref a) d ∧ Gd ((b + 1) * ys.length) (k + 1) d := by
  obtain ⟨ds, h2, g1, g2, g3, g4⟩ := gd_all h
  exact ⟨.tuple ds, .tup (sq_tup ha) h2, by simpa [PyData.showable] using g1, by simpa [PyData.leavesShort] using g2, by simpa [PyData.bulk] using g3, by simp only [PyData.depth]; omega⟩
theorem gd_up {b k b' k' : Nat} {d : PyData} (g : Gd b k d) (h1 : b ≤ b') (h2 : k ≤ k') : Gd b' k' d := ⟨g.sh, g.ls, Nat.le_trans g.bk h1, Nat.le_trans g.dp h2⟩
theorem OdF.dq {K : PySem.W.Frag} {lo : Int} {H : Hp} {v : V} (h : OdF lo H v) : ∃ d, Dq K H v d ∧ Gd 4 2 d := by
  cases h with
  | non => exact ⟨_, .non, by simp [PyData.showable], by simp [PyData.leavesShort], by simp [PyData.bulk], by simp [PyData.depth]⟩
  | bl b => exact ⟨_, .bl b, by simp [PyData.showable], by simp [PyData.leavesShort], by simp [PyData.bulk], by simp [PyData.depth]⟩
  | s3 => exact ⟨_, .str "3", by simp [PyData.showable], by decide +kernel, by decide +kernel, by simp [PyData.depth]⟩
  | s0 => exact ⟨_, .str "", by simp [PyData.showable], by decide +kernel, by decide +kernel, by simp [PyData.depth]⟩
  | int i h s => exact ⟨_, .int i, gd_up (gd_int s) (by omega) (by omega)⟩
  | t0 h =>
    obtain ⟨d, q, g⟩ := gd_tup (K := K) (b := 3) (k := 1) h fun y hy => by simp at hy
    exact ⟨d, q, gd_up g (by simp) (by omega)⟩
  | l0 h =>
    obtain ⟨d, q, g⟩ := gd_lst (K := K) (b := 3) (k := 1) h fun y hy => by simp at hy
    exact ⟨d, q, gd_up g (by simp) (by omega)⟩
  | t1 h =>
    obtain ⟨d, q, g⟩ := gd_tup (K := K) (b := 3) (k := 1) h fun y hy => by
      rw [List.mem_singleton.mp hy]
      exact ⟨_, .int 1, gd_int (by decide)⟩
    exact ⟨d, q, gd_up g (by simp) (by omega)⟩
  | d0 h => exact ⟨_, .dic0 h, by simp [PyData.showable, PyData.showableKv], by decide +kernel, by simp [PyData.bulk, PyData.bulkKv], by simp [PyData.depth, PyData.depthKv]⟩
theorem OdF.wh {K : PySem.W.Frag} {lo : Int} {H : Hp} {v : V} (h : OdF lo H v) : Whole K H v ∧ inI lo BigG v = false := by
  cases h with
  | non => exact ⟨.other (.base .non) (kit_ty (by decide +kernel)) (fun i z => nomatch z), rfl⟩
  | bl b => exact ⟨.bl b, rfl⟩
  | s3 => exact ⟨.other (.base (.str _)) (kit_ty (by decide +kernel)) (fun i z => nomatch z), rfl⟩
  | s0 => exact ⟨.other (.base (.str _)) (kit_ty (by decide +kernel)) (fun i z => nomatch z), rfl⟩
  | int i h s => exact ⟨.int i, h⟩
  | t0 h => exact ⟨.other (.base (.tup h)) (kit_ty (by decide +kernel)) (fun i z => nomatch z), rfl⟩
  | l0 h => exact ⟨.other (.base (.lst h)) (kit_ty (by decide +kernel)) (fun i z => nomatch z), rfl⟩
  | t1 h => exact ⟨.other (.base (.tup h)) (kit_ty (by decide +kernel)) (fun i z => nomatch z), rfl⟩
  | d0 h => exact ⟨.other (.base (.dK h)) (kit_ty (by decide +kernel)) (fun i z => nomatch z), rfl⟩
theorem outs_at {l u : Int} : ∀ {ys : List V} {n m : Nat}, (∀ j x, j < m → ys[j]? = some x → inI l u x = true) → (∃ x, ys[m]? = some x ∧ inI l u x = false) → outs l u ys n = .int ((n + m : Nat) : Int)
  | [], n, m, _, ⟨x, hx, _⟩ => by simp at hx
  | y :: r, n, 0, _, ⟨x, hx, hb⟩ => by
    have : y = x := by simpa using hx
    subst this
    unfold outs
    rw [if_neg (by rw [hb]; decide)]
    rfl
  | y :: r, n, m + 1, h, ⟨x, hx, hb⟩ => by
    unfold outs
    rw [if_pos (h 0 y (by omega) rfl), outs_at (n := n + 1) (m := m) (fun j x hj hjx => h (j + 1) x (by omega) (by simpa using hjx)) ⟨x, by simpa using hx, hb⟩]
    rw [show n + 1 + m = n + (m + 1) by omega]
theorem kitNo {K : PySem.W.Frag} {T : String} (h1 : PySem.W.kitOne K (.type T) (.type "list") = some false) (h2 : PySem.W.kitOne K (.type T) (.type "tuple") = some false) : PySem.W.kitAny K (.type T) [.type "list", .type "tuple"] = some false :=
  kitAny_cons h1 (fun _ => kitAny_cons h2 (fun _ => rfl) (fun z => nomatch z)) (fun z => nomatch z)
/-- what stands for heights or widths in the law, and its fault -/
inductive BdV (lo hi l : Int) (xs : List Int) (d : Addr) (H : Hp) : V → Option V → Prop where
  | sp {ya : Addr} {ys : List V} {ps : List Int} {b : Option V} (h : H ya = some (.lst ys)) (S : Spo l H xs ys ps) (F : ∀ x ∈ ys, ∀ a, x = .ref a → a ≠ d) (yd : ya ≠ d) (hb : (ps = [] ∧ b = none) ∨ ∃ m, b = some (.int m) ∧ m ∈ ps ∧ ∀ p ∈ ps, m ≤ p) : BdV lo hi l xs d H (.ref ya) b
  | wh {v : V} (w : WhF lo hi H v) (f : ∀ a, v = .ref a → a ≠ d) : BdV lo hi l xs d H v (some .non)
theorem badR_bad {lo hi l u : Int} {xs : List V} (h : (xs.length : Int) < lo ∨ hi < (xs.length : Int)) : badR lo hi l u (some xs) = some .non := by
  unfold badR
  show (if (decide (lo ≤ (xs.length : Int)) && decide ((xs.length : Int) ≤ hi)) = true then _ else _) = some V.non
  refine if_neg fun z => ?_
  have := Bool.and_eq_true_iff.mp z
  have h1 := of_decide_eq_true this.1
  have h2 := of_decide_eq_true this.2
  omega
theorem badR_at {lo hi l u : Int} {xs : List V} {v : V} (h1 : lo ≤ (xs.length : Int)) (h2 : (xs.length : Int) ≤ hi) (h : outs l u xs 0 = v) (hv : v ≠ .non) : badR lo hi l u (some xs) = some v := by
  unfold badR
  show (if (decide (lo ≤ (xs.length : Int)) && decide ((xs.length : Int) ≤ hi)) = true then _ else _) = some v
  rw [decide_eq_true h1, decide_eq_true h2, if_pos (show (true && true) = true from rfl), h, if_neg hv]
theorem BdV.row {K : PySem.W.Frag} {lo hi l : Int} {xs : List Int} {d : Addr} {H : Hp} {v : V} {b : Option V} (h : BdV lo hi l xs d H v b) (hx : ∀ x ∈ xs, inI l BigG (.int x) = true) (h1 : lo ≤ (xs.length : Int)) (h2 : (xs.length : Int) ≤ hi) (l60 : xs.length ≤ 60) (sx : ∀ x ∈ xs, x.natAbs < 10 ^ 35) :
    ∃ o, RowV K H v o ∧ Items K H o ∧ badR lo hi l BigG o = b ∧ v ≠ .non ∧ (b = none → (o.getD []).length = xs.length) ∧ (∀ i : Nat, badR lo hi l BigG o = some (.int i) → (o.getD []).length = xs.length) ∧ ∃ dd, Dq K H v dd ∧ Gd 350 3 dd := by
  have good : ∀ {z : Int}, z ∈ xs → inI l BigG (.int z) = true := fun h => hx _ h
  cases h with
  | @sp ya ys ps b h S F yd hb =>
    have ly : (ys.length : Int) = (xs.length : Int) := by rw [S.len]
    refine ⟨some ys, .row (.inl h), fun zs ez x hxm => ?_, ?_, (fun z => nomatch z), fun _ => S.len, fun _ _ => S.len, ?_⟩
    · cases ez
      obtain ⟨i, hi, rfl⟩ := List.getElem_of_mem hxm
      rcases S.at_ i _ (List.getElem?_eq_getElem hi) with ⟨_, o⟩ | ⟨_, z, _, e⟩
      · exact (o.wh (K := K)).1
      · rw [e]; exact .int z
    · rcases hb with ⟨rfl, rfl⟩ | ⟨m, rfl, hm, hmin⟩
      · refine badR_ok (by omega) (by omega) (outs_none fun x hxm => ?_)
        obtain ⟨i, hi, rfl⟩ := List.getElem_of_mem hxm
        rcases S.at_ i _ (List.getElem?_eq_getElem hi) with ⟨m, _⟩ | ⟨_, z, hz, e⟩
        · simp at m
        · rw [e]; exact good (List.mem_of_getElem? hz)
      · obtain ⟨p0, p1⟩ := S.pr m hm
        obtain ⟨q, rfl⟩ : ∃ q : Nat, m = (q : Int) := ⟨m.toNat, by omega⟩
        have hq : q < ys.length := by omega
        refine badR_at (by omega) (by omega) ?_ (fun z => nomatch z)
        have bad : inI l BigG ys[q] = false := by
          rcases S.at_ q _ (List.getElem?_eq_getElem hq) with ⟨_, o⟩ | ⟨nm, _⟩
          · exact (o.wh (K := K)).2
          · exact absurd hm nm
        have fine : ∀ j x, j < q → ys[j]? = some x → inI l BigG x = true := fun j x hj hjx => by
          rcases S.at_ j x hjx with ⟨mj, _⟩ | ⟨_, z, hz, e⟩
          · have := hmin _ mj
            omega
          · rw [e]; exact good (List.mem_of_getElem? hz)
        rw [outs_at (n := 0) (m := q) fine ⟨ys[q], List.getElem?_eq_getElem hq, bad⟩, Nat.zero_add]
    · obtain ⟨dd, q, g⟩ := gd_lst (K := K) (b := 4) (k := 2) h fun y hy => by
        obtain ⟨i, hi, rfl⟩ := List.getElem_of_mem hy
        rcases S.at_ i _ (List.getElem?_eq_getElem hi) with ⟨_, o⟩ | ⟨_, z, hz, e⟩
        · exact o.dq
        · rw [e]
          exact ⟨_, .int z, gd_up (gd_int (sx z (List.mem_of_getElem? hz))) (by omega) (by omega)⟩
      exact ⟨dd, q, gd_up g (by have := S.len; omega) (by omega)⟩
  | wh w f =>
    have noInt : ∀ {o : Option (List V)}, badR lo hi l BigG o = some .non → ∀ i : Nat, badR lo hi l BigG o = some (.int i) → (o.getD []).length = xs.length := fun h i h' => by rw [h] at h'; cases h'
    cases w with
    | n7 => exact ⟨none, .other (.base (.int 7)) (kitNo (kit_ty (by decide +kernel)) (kit_ty (by decide +kernel))), (fun _ e => nomatch e), rfl, (fun z => nomatch z), (fun z => nomatch z), noInt rfl, _, .int 7, gd_up (gd_int (by decide)) (by omega) (by omega)⟩
    | bl b => exact ⟨none, .other (.base (.bl b)) (kitNo (kit_ty (by decide +kernel)) (kit_ty (by decide +kernel))), (fun _ e => nomatch e), rfl, (fun z => nomatch z), (fun z => nomatch z), noInt rfl, _, .bl b, by simp [PyData.showable], by simp [PyData.leavesShort], by simp [PyData.bulk], by simp [PyData.depth]⟩
    | s11 => exact ⟨none, .other (.base (.str _)) (kitNo (kit_ty (by decide +kernel)) (kit_ty (by decide +kernel))), (fun _ e => nomatch e), rfl, (fun z => nomatch z), (fun z => nomatch z), noInt rfl, _, .str "11", by simp [PyData.showable], by decide +kernel, by decide +kernel, by simp [PyData.depth]⟩
    | s0 => exact ⟨none, .other (.base (.str _)) (kitNo (kit_ty (by decide +kernel)) (kit_ty (by decide +kernel))), (fun _ e => nomatch e), rfl, (fun z => nomatch z), (fun z => nomatch z), noInt rfl, _, .str "", by simp [PyData.showable], by decide +kernel, by decide +kernel, by simp [PyData.depth]⟩
    | d0 h => exact ⟨none, .other (.base (.dK h)) (kitNo (kit_ty (by decide +kernel)) (kit_ty (by decide +kernel))), (fun _ e => nomatch e), rfl, (fun z => nomatch z), (fun z => nomatch z), noInt rfl, _, .dic0 h, by simp [PyData.showable, PyData.showableKv], by decide +kernel, by simp [PyData.bulk, PyData.bulkKv], by simp [PyData.depth, PyData.depthKv]⟩
    | d1 h => exact ⟨none, .other (.base (.dK h)) (kitNo (kit_ty (by decide +kernel)) (kit_ty (by decide +kernel))), (fun _ e => nomatch e), rfl, (fun z => nomatch z), (fun z => nomatch z), noInt rfl, _, .dic1 h, by decide +kernel, by decide +kernel, by simp [PyData.bulk, PyData.bulkKv], by simp [PyData.depth, PyData.depthKv]⟩
    | ls n x h b n70 sx' =>
      have bb := badR_bad (lo := lo) (hi := hi) (l := l) (u := BigG) (xs := (List.replicate n x).map V.int) (by rw [List.length_map, List.length_replicate]; exact b)
      obtain ⟨dd, q, g⟩ := gd_lst (K := K) (b := 3) (k := 1) h fun y hy => by
        obtain ⟨z, hz, rfl⟩ := List.mem_map.mp hy
        rw [(List.mem_replicate.mp hz).2]
        exact ⟨_, .int x, gd_int sx'⟩
      refine ⟨some _, .row (.inl h), fun zs ez y hy => ?_, bb, (fun z => nomatch z), (fun z => nomatch z), noInt bb, dd, q, gd_up g (by rw [List.length_map, List.length_replicate]; omega) (by omega)⟩
      cases ez
      obtain ⟨z, _, rfl⟩ := List.mem_map.mp hy
      exact .int z
    | tp n x h b n70 sx' =>
      have bb := badR_bad (lo := lo) (hi := hi) (l := l) (u := BigG) (xs := (List.replicate n x).map V.int) (by rw [List.length_map, List.length_replicate]; exact b)
      obtain ⟨dd, q, g⟩ := gd_tup (K := K) (b := 3) (k := 1) h fun y hy => by
        obtain ⟨z, hz, rfl⟩ := List.mem_map.mp hy
        rw [(List.mem_replicate.mp hz).2]
        exact ⟨_, .int x, gd_int sx'⟩
      refine ⟨some _, .row (.inr h), fun zs ez y hy => ?_, bb, (fun z => nomatch z), (fun z => nomatch z), noInt bb, dd, q, gd_up g (by rw [List.length_map, List.length_replicate]; omega) (by omega)⟩
      cases ez
      obtain ⟨z, _, rfl⟩ := List.mem_map.mp hy
      exact .int z
def dFt (x : Str) : Option V → PyData
  | none => .tuple []
  | some z => .tuple [.str x, dIx z, .bool true, .bool true, .bool false]
def dAll (bh bw : Option V) : PyData := match bh with
  | some z => dFt "heights" (some z)
  | none => dFt "widths" bw
theorem dp_dft {K : PySem.W.Frag} {H : Hp} {r : Addr} {x : Str} {z : V} (h : H r = some (.tup [.str x, z, .bl true, .bl true, .bl false])) (hz : z = .non ∨ ∃ i : Nat, z = .int (i : Int)) : Dp K H (.ref r) (dFt x (some z)) := dp5 h (dp_ix hz)
/-- what the law keeps -/
structure Due (K : PySem.W.Frag) (H : Hp) (d r : Addr) (D : PyData) (bh bw : Option V) : Prop where
  nd : r ≠ d
  eq : D = dAll bh bw
  tu : (D = .tuple [] ∧ H r = some (.tup [])) ∨ ∃ x z, D = dFt x (some z) ∧ (x = "heights" ∨ x = "widths") ∧ (x = "heights" ↔ bh ≠ none) ∧ H r = some (.tup [.str x, z, .bl true, .bl true, .bl false]) ∧ (z = .non ∨ ∃ i : Nat, z = .int (i : Int))
theorem Due.dp {K : PySem.W.Frag} {H : Hp} {d r : Addr} {D : PyData} {bh bw : Option V} (h : Due K H d r D bh bw) : Dp K H (.ref r) D := by
  rcases h.tu with ⟨h1, h2⟩ | ⟨x, z, h1, _, _, h4, h5⟩
  · rw [h1]; exact .tup (sq_tup h2) .nil
  · rw [h1]; exact dp_dft h4 h5
end Rv
namespace Rv
open PySem PySem.Spec PyProof.Rows L2
def top (i : Nat) : Stmt := PySem.Challenge.pw_rainvalleys_k12_invalid_profiles.main.body.getD i (.Pass ⟨0, 0, 0, 0⟩)
abbrev s_InvalidProfile___init__ : Stmt := inClass (top 3) 0
abbrev s_InvalidWidths___init__ : Stmt := inClass (top 4) 0
abbrev s_is_whole : Stmt := top 7
abbrev s_is_whole_within : Stmt := top 8
abbrev s_first_outside : Stmt := top 9
abbrev s_is_row : Stmt := top 13
abbrev s_check_heights : Stmt := top 14
abbrev s_check_widths : Stmt := top 15
abbrev s_Profile___init__ : Stmt := inClass (top 16) 0
abbrev s__law_draws : Stmt := top 18
abbrev s__law_draw : Stmt := top 19
abbrev s__law_heights : Stmt := top 20
abbrev s__law_widths : Stmt := top 21
abbrev s__law_made : Stmt := top 22
abbrev s__law_odd : Stmt := top 23
abbrev s__law_spoilt : Stmt := top 24
abbrev s__law_first : Stmt := top 25
abbrev s__law_whole : Stmt := top 26
abbrev s_law : Stmt := top 27
def D_InvalidProfile___init__ : He.DefD := ⟨("InvalidProfile", some "__init__"), "__init__", "InvalidProfile.__init__", defArgs s_InvalidProfile___init__, defBody s_InvalidProfile___init__, defScope s_InvalidProfile___init__, [], []⟩
def D_InvalidWidths___init__ : He.DefD := ⟨("InvalidWidths", some "__init__"), "__init__", "InvalidWidths.__init__", defArgs s_InvalidWidths___init__, defBody s_InvalidWidths___init__, defScope s_InvalidWidths___init__, [], []⟩
def D_is_whole : He.DefD := ⟨("is_whole", none), "is_whole", "is_whole", defArgs s_is_whole, defBody s_is_whole, defScope s_is_whole, [], []⟩
def D_is_whole_within : He.DefD := ⟨("is_whole_within", none), "is_whole_within", "is_whole_within", defArgs s_is_whole_within, defBody s_is_whole_within, defScope s_is_whole_within, [], []⟩
def D_first_outside : He.DefD := ⟨("first_outside", none), "first_outside", "first_outside", defArgs s_first_outside, defBody s_first_outside, defScope s_first_outside, [], []⟩
def D_is_row : He.DefD := ⟨("is_row", none), "is_row", "is_row", defArgs s_is_row, defBody s_is_row, defScope s_is_row, [], []⟩
def D_check_heights : He.DefD := ⟨("check_heights", none), "check_heights", "check_heights", defArgs s_check_heights, defBody s_check_heights, defScope s_check_heights, [], []⟩
def D_check_widths : He.DefD := ⟨("check_widths", none), "check_widths", "check_widths", defArgs s_check_widths, defBody s_check_widths, defScope s_check_widths, [], []⟩
def D_Profile___init__ : He.DefD := ⟨("Profile", some "__init__"), "__init__", "Profile.__init__", defArgs s_Profile___init__, defBody s_Profile___init__, defScope s_Profile___init__, [.non], []⟩
def D__law_draws : He.DefD := ⟨("_law_draws", none), "_law_draws", "_law_draws", defArgs s__law_draws, defBody s__law_draws, defScope s__law_draws, [], []⟩
def D__law_draw : He.DefD := ⟨("_law_draw", none), "_law_draw", "_law_draw", defArgs s__law_draw, defBody s__law_draw, defScope s__law_draw, [], []⟩
def D__law_heights : He.DefD := ⟨("_law_heights", none), "_law_heights", "_law_heights", defArgs s__law_heights, defBody s__law_heights, defScope s__law_heights, [], []⟩
def D__law_widths : He.DefD := ⟨("_law_widths", none), "_law_widths", "_law_widths", defArgs s__law_widths, defBody s__law_widths, defScope s__law_widths, [], []⟩
def D__law_made : He.DefD := ⟨("_law_made", none), "_law_made", "_law_made", defArgs s__law_made, defBody s__law_made, defScope s__law_made, [], []⟩
def D__law_odd : He.DefD := ⟨("_law_odd", none), "_law_odd", "_law_odd", defArgs s__law_odd, defBody s__law_odd, defScope s__law_odd, [], []⟩
def D__law_spoilt : He.DefD := ⟨("_law_spoilt", none), "_law_spoilt", "_law_spoilt", defArgs s__law_spoilt, defBody s__law_spoilt, defScope s__law_spoilt, [], []⟩
def D__law_first : He.DefD := ⟨("_law_first", none), "_law_first", "_law_first", defArgs s__law_first, defBody s__law_first, defScope s__law_first, [], []⟩
def D__law_whole : He.DefD := ⟨("_law_whole", none), "_law_whole", "_law_whole", defArgs s__law_whole, defBody s__law_whole, defScope s__law_whole, [], []⟩
def D_law : He.DefD := ⟨("law", none), "law", "law", defArgs s_law, defBody s_law, defScope s_law, [], []⟩
def fn : List He.DefD := [D_InvalidProfile___init__, D_InvalidWidths___init__, D_is_whole, D_is_whole_within, D_first_outside, D_is_row, D_check_heights, D_check_widths, D_Profile___init__, D__law_draws, D__law_draw, D__law_heights, D__law_widths, D__law_made, D__law_odd, D__law_spoilt, D__law_first, D__law_whole, D_law]
def loose : List PySem.Str := [("_wall" : PySem.Str), ("__name__" : PySem.Str), ("RainError" : PySem.Str), ("InvalidProfile" : PySem.Str), ("InvalidWidths" : PySem.Str), ("LimitExceeded" : PySem.Str), ("is_whole" : PySem.Str), ("is_whole_within" : PySem.Str), ("first_outside" : PySem.Str), ("MOST_COLUMNS" : PySem.Str), ("GREATEST" : PySem.Str), ("is_row" : PySem.Str), ("check_heights" : PySem.Str), ("check_widths" : PySem.Str), ("Profile" : PySem.Str), ("_law_draws" : PySem.Str), ("_law_draw" : PySem.Str), ("_law_heights" : PySem.Str), ("_law_widths" : PySem.Str), ("_law_made" : PySem.Str), ("_law_odd" : PySem.Str), ("_law_spoilt" : PySem.Str), ("_law_first" : PySem.Str), ("_law_whole" : PySem.Str)]
def fa : List He.Fa := [.free "int", .free "isinstance", .free "bool", .free "enumerate", .free "tuple", .free "list", .free "len", .int "MOST_COLUMNS" 60, .int "GREATEST" 1000000000000000000000000000000, .free "range", .free "ValueError", .free "repr", .glo "InvalidProfile", .glo "InvalidWidths", .glo "Profile", .cls "Profile", .glo "RainError", .noat "Profile" "column_heights", .noat "Profile" "column_widths", .mkr "Profile", .meth "InvalidProfile" "__init__", .meth "InvalidWidths" "__init__", .glo "is_whole", .glo "is_whole_within", .glo "first_outside", .glo "is_row", .glo "check_heights", .glo "check_widths", .glo "_law_draws", .glo "_law_draw", .glo "_law_heights", .glo "_law_widths", .glo "_law_made", .glo "_law_odd", .glo "_law_spoilt", .glo "_law_first", .glo "_law_whole", .glo "law"]
def gts : List Gt := []
def exB (K : PySem.W.Frag) : Bool := clB K "Profile" && (oxB K "InvalidProfile" "ValueError.__new__" bm_ValueError && (xfB K (He.ga K "InvalidProfile") && (decide (PySem.W.findIn K (.ref (He.ga K "InvalidProfile")) "index" = some none) && (ecB K "InvalidProfile" && (bgB K "RainError" "ValueError.__init__" && (oxB K "InvalidWidths" "ValueError.__new__" bm_ValueError && (xfB K (He.ga K "InvalidWidths") && (decide (PySem.W.findIn K (.ref (He.ga K "InvalidWidths")) "index" = some none) && (ecB K "InvalidWidths" && (xm2B K && (sysB K)))))))))))
abbrev RR : PySem.W.OpenRow := PySem.W.OpenLaw.row PySem.Challenge.rw_rainvalleys_k12_invalid_profiles
abbrev hk : PySem.W.Hook := hookL (List.range 1400) fa fn gts exB
def ob (s : PySem.W.SharedT) : AlR := obsRL (List.range 1400) fa fn gts exB (HandSHeadRun.getT s)
theorem ob_eq (s : PySem.W.SharedT) : ob s = hk.obs s.abs := obsRL_eq (HandSHeadRun.getT_eq s)
theorem run (w : World) : HandSHeadRun.RunEq RR (PySem.W.view RR.prog [27]) hk ob 8000 loose w := by
  intro os
  kernel_rfl
end Rv
open PySem PySem.W PySem.Calls PyProof.Rows

set_option Elab.async false
set_option linter.all false
set_option maxRecDepth 100000
set_option maxHeartbeats 4000000
/-! Words of this proof: operators on values by short names, the steps of a reading, what a call of a def asks. -/
namespace Rv
open PySem PySem.Spec PyProof.Rows L2
abbrev oAdd : R2 := rI0 fun i j => .int (i + j)
abbrev oSub : R2 := rI0 fun i j => .int (i - j)
abbrev oMul : R2 := rI CMul fun i j => .int (i * j)
abbrev oDiv : R2 := rI CDivW fun i j => .int (i / j)
abbrev oMod : R2 := rI (fun _ j => 0 < j) fun i j => .int (i % j)
abbrev oPow : R2 := rI CPow fun i j => .int (i ^ j.toNat)
abbrev oLt : R2 := rI0 fun i j => .bl (decide (i < j))
abbrev oLe : R2 := rI0 fun i j => .bl (decide (i ≤ j))
abbrev oGt : R2 := rI0 fun i j => .bl (decide (j < i))
abbrev oGe : R2 := rI0 fun i j => .bl (decide (j ≤ i))
abbrev oIsN : R2 := fun x y H Q => y = .non ∧ Q (.bl (decide (x = .non))) H
abbrev oNotN : R2 := fun x y H Q => y = .non ∧ Q (.bl (!decide (x = .non))) H
abbrev cLen (K : PySem.W.Frag) : List V → Hp → VK → Prop := fun xs H Q => ∃ p ys, xs = [.ref p] ∧ (SqL K H p ys ∨ SqT K H p ys) ∧ Q (.int ys.length) H
abbrev cList (K : PySem.W.Frag) : List V → Hp → VK → Prop := fun xs H Q => ∃ p ys, xs = [.ref p] ∧ (SqL K H p ys ∨ SqT K H p ys) ∧ ∀ l, H l = none → Q (.ref l) (upd H l (.lst ys))
abbrev cTuple (K : PySem.W.Frag) : List V → Hp → VK → Prop := fun xs H Q => ∃ p ys, xs = [.ref p] ∧ ((SqL K H p ys ∧ ∀ l, H l = none → Q (.ref l) (upd H l (.tup ys))) ∨ (SqT K H p ys ∧ Q (.ref p) H))
/-- a def of the module as its callers see it -/
structure Cal (P : Program) (w : World) (K : PySem.W.Frag) (mg : Str → Option Value) (base : Heap) (CX : CXT) (k : Nat) (x : Str) (ps : List Str) (sp : Sp) : Prop where
  ex : ∃ f fd, FnOk P w K mg base CX k f fd ps sp ∧ mg x = some (.ref f) ∧ PySem.W.keepIn K (.ref f) = true ∧ Binds K fd ps []
section
variable {X : Cx} {CX : CXT} {k : Nat} {x : Str} {ps : List Str} {sp : Sp} {E : XK} {p pos : Pos} {e : Expr} {es : List Expr} {t : TA}
theorem pe_cal (c : Cal X.prog X.w X.K X.mg X.base CX k x ps sp) (hr : Room k X.A) (hg : Gl X x) (hx : Passes CX X E) (ha : PA X (e :: es) t) (hdb : (x == ("__debug__" : Str)) = false := by decide)
    (he : starEach (e :: es) X.env = (false, eval e X.env) :: starEach es X.env := by rfl) (hpl : (backTo pos (starEach es X.env)).any (·.1) = false := by rfl) :
    PE X (.Call (.Name x p) (e :: es) [] pos) (tCall sp [] E t) := by
  obtain ⟨f, fd, F, hm, hk, hb⟩ := c.ex
  first
    | exact pe_call F hr hg hm hk hb .nil hx ha hdb he hpl
    | exact pe_call F hr hg hm hk hb .nil hx ha
end
section
variable {K : PySem.W.Frag} {σ : L2.St} {H : Hp} {Q : VK} {D : Ends} {v x y : V} {i j : Int} {n : Nat} {ta tb te to ti : TE} {t u c : TT} {tr : TA} {b : Bool} {r : R2} {s1 s2 : TS} {g : TG} {p : Addr} {xs : List V} {TQ : Bool → Hp → Prop} {AQ : List V → Hp → Prop} {HQ : Hp → Prop} {GQ : L2.St → Hp → Prop}
theorem w_seq (q : s1 { D with nx := s2 D } σ H) : tSeq s1 s2 D σ H := q
/-- behind s1 the word W holds, whatever way was gone -/
theorem w_cut (W : L2.St → Hp → Prop) (h : ∀ N : L2.St → Hp → Prop, (∀ σ' H', W σ' H' → N σ' H') → s1 { D with nx := N } σ H) (k : ∀ σ' H', W σ' H' → s2 D σ' H') : tSeq s1 s2 D σ H := h _ k
theorem w_setL {k : Int} {j : Nat} (h : H p = some (.lst xs)) (hj : ixN xs.length k = some j) (q : HQ (upd H p (.lst (xs.set j v)))) : rSetL (.ref p) (.int k) v H HQ := ⟨p, xs, k, j, rfl, rfl, h, hj, q⟩
theorem w_ixT (h : SqT K H p xs) (ha : atI xs i = some v) (q : Q v H) : rIxT K (.ref p) (.int i) H Q := ⟨p, xs, i, v, rfl, rfl, h, ha, q⟩
theorem w_lenL (h : SqL K H p xs) (q : Q (.int xs.length) H) : cLen K [.ref p] H Q := ⟨p, xs, rfl, .inl h, q⟩
theorem w_lenT (h : SqT K H p xs) (q : Q (.int xs.length) H) : cLen K [.ref p] H Q := ⟨p, xs, rfl, .inr h, q⟩
theorem w_slL {lo hi : Option Int} (h : SqL K H p xs) (q : ∀ q', H q' = none → Q (.ref q') (upd H q' (.lst (cutV xs lo hi)))) : rSlL K (.ref p) lo hi H Q := ⟨p, xs, rfl, h, q⟩
/-- a test whose answer is open: both ways -/
theorem w_both {c A B : Prop} [Decidable c] (h1 : c → A) (h2 : ¬ c → B) : if decide c = true then A else B := by
  by_cases h : c
  · rw [decide_eq_true h]
    exact iteT (h1 h)
  · rw [decide_eq_false h]
    exact iteF (h2 h)
end
theorem But.refl (d : Addr) (H : Hp) : But d H H := fun _ _ _ h => h
theorem But.trans {d : Addr} {H H1 H2 : Hp} (a : But d H H1) (b : But d H1 H2) : But d H H2 := fun c o n h => b c o n (a c o n h)
theorem But.wr {d : Addr} {H H' : Hp} {o : HO} (a : But d H H') : But d H (upd H' d o) := fun c u n h => by
  rw [upd_ne n]
  exact a c u n h
theorem But.new {d p : Addr} {H H' : Hp} {o : HO} (a : But d H H') (h : H' p = none) : But d H (upd H' p o) := fun c u n z => by
  have q := a c u n z
  rw [upd_ne (ne_of_none q h)]
  exact q
theorem But.same {d : Addr} {H H' : Hp} (a : Same H H') : But d H H' := fun c u _ z => a c u z
theorem same_new {p : Addr} {H H' : Hp} {o : HO} (a : Same H H') (h : H' p = none) : Same H (upd H' p o) := fun c u z => by
  have q := a c u z
  rw [upd_ne (ne_of_none q h)]
  exact q
theorem at_nat {xs : List V} {j : Nat} {v : V} (h : xs[j]? = some v) : atI xs (j : Int) = some v := atI_nat h
theorem szl {n : Nat} (h : n ≤ 100000) : n ≤ sizeLine := Nat.le_trans h (by decide)
end Rv
namespace Rv
open PySem PySem.Spec PyProof.Rows L2
/-- a module's name that holds an int -/
theorem pe_gint {X : Cx} {x : Str} {i : Int} {pos : Pos} (h : ∃ u, X.mg x = some (.int i u)) (hg : Gl X x) (hd : (x == ("__debug__" : Str)) = false := by decide) : PE X (.Name x pos) (tC (.int i)) := by
  obtain ⟨u, h⟩ := h
  exact pe_glob hg h ⟨u, rfl⟩ hd
/-- a class of the module whose instances are made by its __init__ (dvs: the defaults that fill up) -/
structure CalM (P : Program) (w : World) (K : PySem.W.Frag) (mg : Str → Option Value) (base : Heap) (CX : CXT) (k : Nat) (x : Str) (C : Addr) (ps : List Str) (sp : Sp) (dvs : List V) : Prop where
  ex : ∃ f fd ds, FnOk P w K mg base CX k f fd ps sp ∧ Mk K C f ∧ mg x = some (.ref C) ∧ Binds K fd ps ds ∧ Vals dvs ds
end Rv
namespace Rv
open PySem PySem.Spec PyProof.Rows L2
section
variable {K : PySem.W.Frag} {σ : L2.St} {H : Hp} {Q : VK} {D : Ends} {v x y : V} {i j : Int} {n slot : Nat} {ta tb tc te to ti tv tl : TE} {t u c tt : TT} {tr : TA} {b : Bool} {r r' : R2} {s1 s2 : TS} {g : TG} {p a d C dx : Addr} {xs : List V} {f : Str} {fs : List (Str × V)} {GQ2 : Hp → Prop}
theorem w_chain (q : ta σ H fun x H1 => tb σ H1 fun y H2 => r x y H2 fun z H3 => ∃ k, z = .bl k ∧ (if k = true then tc σ H3 fun w' H4 => r' y w' H4 Q else Q (.bl false) H3)) : tChain r r' ta tb tc σ H Q := q
theorem w_sfld (q : tv σ H fun y H1 => to σ H1 fun x H2 => ∃ a C dx fs, x = .ref a ∧ H2 a = some (.ins C dx fs) ∧ Cls K C ∧ NoAttr K C f ∧ fs.length < 1000 ∧ D.nx σ (upd H2 a (.ins C dx (putF f y fs)))) : sFld K to tv f D σ H := q
theorem w_put (ho : H a = some (.ins C dx fs)) (hc : Cls K C) (hf : NoAttr K C f) (hl : fs.length < 1000) (q : GQ2 (upd H a (.ins C dx (putF f y fs)))) : ∃ a' C' dx' fs', V.ref a = .ref a' ∧ H a' = some (.ins C' dx' fs') ∧ Cls K C' ∧ NoAttr K C' f ∧ fs'.length < 1000 ∧ GQ2 (upd H a' (.ins C' dx' (putF f y fs'))) := ⟨a, C, dx, fs, rfl, ho, hc, hf, hl, q⟩
/-- for x in a list -/
theorem w_forL (ha : ∀ Q : VK, Q (.ref a) H → tl σ H Q) (hx : SqL K H a xs) (Pv : Nat → L2.St → Hp → Prop) (h0 : Pv 0 σ H) (hl : ∀ i σ' H', i ≤ xs.length → Pv i σ' H' → SqL K H' a xs)
    (hs : ∀ i x σ' H', xs[i]? = some x → Pv i σ' H' → g x σ' H' fun σ2 H2 => s1 { D with nx := Pv (i + 1), ct := Pv (i + 1), bk := D.nx } σ2 H2) (hd : ∀ σ' H', Pv xs.length σ' H' → D.nx σ' H') : tFor (iList K tl) g s1 D σ H :=
  ha _ ⟨a, rfl, ⟨xs, hx⟩, for_list Pv h0 hl hs hd⟩
/-- [e for x in range(n)] -/
theorem w_lcR {n : Nat} (hn : n ≤ 100000) (ha : ∀ AQ : List V → Hp → Prop, AQ [.int (n : Int)] H → tr σ H AQ) (J : Addr → List V → Hp → Prop) (h0 : ∀ D, H D = none → J D [] (upd H D (.lst [])))
    (hs : ∀ D acc H1, acc.length < n → J D acc H1 → te ((σ.set slot none).set slot (some (.int (acc.length : Int)))) H1 fun y H2 => ∃ bcc, H2 D = some (.lst bcc) ∧ bcc.length < sizeLine ∧ ∃ ccc, ccc.length = acc.length + 1 ∧ J D ccc (upd H2 D (.lst (bcc ++ [y]))))
    (hd : ∀ D acc H1, acc.length = n → J D acc H1 → Q (.ref D) H1) : tLc (iRng1 tr) (gName slot) tYes te [slot] σ H Q := by
  refine ha _ ⟨(n : Int), rfl, by omega, by omega, ?_⟩
  rw [show ((n : Int)).toNat = n from Int.toNat_natCast n]
  intro D nD
  refine lc_range (fun i H1 => ∃ acc, acc.length = i ∧ J D acc H1) ⟨[], rfl, h0 D nD⟩ ?_ (fun H1 ⟨acc, e, q⟩ => hd D acc H1 e q)
  rintro i H1 hi ⟨acc, rfl, q⟩
  refine ⟨?_, ?_⟩
  · show ((σ.set slot none).set slot _).set slot none = σ.set slot none
    rw [List.set_set, List.set_set]
  · show te _ H1 _
    rw [Int.zero_add]
    exact hs D acc H1 hi q
/-- what a turn of a comprehension ends with -/
theorem w_app {J : Addr → List V → Hp → Prop} {D2 : Addr} {acc : List V} {H2 : Hp} (h : H2 D2 = some (.lst acc)) (hl : acc.length ≤ 100000) (q : J D2 (acc ++ [y]) (upd H2 D2 (.lst (acc ++ [y])))) :
    ∃ bcc, H2 D2 = some (.lst bcc) ∧ bcc.length < sizeLine ∧ ∃ ccc, ccc.length = acc.length + 1 ∧ J D2 ccc (upd H2 D2 (.lst (bcc ++ [y]))) :=
  ⟨acc, h, Nat.lt_of_lt_of_le (by omega : acc.length < 100001) (by decide), acc ++ [y], by rw [List.length_append]; rfl, q⟩
end
end Rv
namespace Rv
open PySem PySem.Spec PyProof.Rows L2
section
variable {K : PySem.W.Frag} {σ : L2.St} {H : Hp} {Q : VK} {D : Ends} {v x y : V} {i j : Int} {n slot : Nat} {ta tb tc te to ti tv tl : TE} {t u c tt : TT} {tr : TA} {b b2 : Bool} {g : TG} {p a l : Addr} {xs ys : List V} {vs : List Nat}
theorem w_bm {r : V → List V → Hp → VK → Prop} (hn : σ[n]? = some (some (.ref l))) (hl : H l = some (.lst xs)) (q : tr σ H fun ws H2 => r (.ref l) ws H2 Q) : tBM K "list" r (tVar n) tr σ H Q := ⟨_, hn, .inl ⟨rfl, _, sq_lst hl⟩, q⟩
theorem w_appR (hl : H l = some (.lst xs)) (hz : xs.length ≤ 100000) (q : Q .non (upd H l (.lst (xs ++ [y])))) : rAppend (.ref l) [y] H Q := ⟨l, xs, y, rfl, rfl, hl, Nat.lt_of_lt_of_le (by omega : xs.length < 100001) (by decide), q⟩
end
end Rv
namespace Rv
open PySem PySem.Spec PyProof.Rows L2
/-! what the top leaves behind, beyond defs and methods: properties, an own ==, getters -/
theorem gt_fun {K : PySem.W.Frag} {g : Gt} {a : Addr} (e : txt K a = g.val) (c : txB K a g.qual = true) : ∃ z, FunD K g.pr g.qual g.params g.body g.scope [] [] a z := by
  obtain ⟨kp, c⟩ := He.ba c
  unfold txt at e
  cases q : K.lookup a with
  | none =>
    rw [q] at e
    cases e
  | some o =>
    obtain ⟨o1, o2, o3, o4⟩ := o
    rw [q] at e c
    cases o3 with
    | func z =>
      obtain ⟨z1, z2, z3, z4, z5, z6, z7, z8, z9, z10, z11, z12, z13, z14, z15⟩ := z
      have e2 : (some (z1, z2, z3, z4, z5, z6, z7, z15) : He.FnW) = some (g.pr, g.qual, g.params, .stmts g.body, g.scope, mainGlobals, [], builtinsNs) := e
      simp only [Option.some.injEq, Prod.mk.injEq] at e2
      obtain ⟨r1, r2, r3, r4, r5, r6, r7, r8⟩ := e2
      subst r1 r2 r3 r4 r5 r6 r7 r8
      obtain ⟨u1, u2⟩ := He.ba (show (PySem.W.codeIn K z13 _ && isNn z8) = true from c)
      cases z8 with
      | none => exact ⟨_, ⟨o1, o2, _, z9, z10, z11, z12, z13, z14, o4, rfl, q, u1, .inl ⟨rfl, rfl⟩, .inl rfl⟩, kp⟩
      | _ => cases u2
    | _ => cases c
/-! the hook: facts, defs, getters, one more test -/
section
variable {fa : List He.Fa} {fn : List He.DefD} {gs : List Gt} {ex : PySem.W.Frag → Bool} {K : PySem.W.Frag}
theorem SaysR.d (c : SaysR fa fn gs ex K) : He.SaysD fa fn K := congrArg (fun z : AlR => z.1) c
theorem SaysR.x (c : SaysR fa fn gs ex K) : ex K = true := (He.ba (show (ex K && gs.all fun g => txB K (gtA K g.cl g.pr) g.qual) = true from congrArg (fun z : AlR => z.2.1) c)).1
theorem SaysR.g (c : SaysR fa fn gs ex K) (i : Nat) {g : Gt} (h : gs[i]? = some g := by rfl) : ∃ z, FunD K g.pr g.qual g.params g.body g.scope [] [] (gtA K g.cl g.pr) z := by
  have c1 := (He.ba (show (ex K && gs.all fun g => txB K (gtA K g.cl g.pr) g.qual) = true from congrArg (fun z : AlR => z.2.1) c)).2
  have e : gs.map (fun g => txt K (gtA K g.cl g.pr)) = gs.map Gt.val := congrArg (fun z : AlR => z.2.2) c
  have e2 : (gs.map fun g => txt K (gtA K g.cl g.pr))[i]? = (gs.map Gt.val)[i]? := by rw [e]
  rw [List.getElem?_map, List.getElem?_map, h] at e2
  exact gt_fun (Option.some.inj e2) (List.all_eq_true.mp c1 g (List.mem_of_getElem? h))
end
end Rv
namespace Rv
open PySem PySem.Spec PyProof.Rows L2
/-! the hook with the addresses said -/
end Rv
namespace Rv
open PySem PySem.Spec PyProof.Rows L2
/-! ### the law's draws: a list of the cells, a place, a number in use, a seed -/
def DrawsAt (H : Hp) (d c : Addr) : Prop := ∃ (ns : List Int) (pos num seed : Int), H d = some (.lst [.ref c, .int pos, .int num, .int seed]) ∧ H c = some (.lst (ns.map V.int)) ∧ c ≠ d ∧ 0 ≤ pos ∧ 0 ≤ num ∧ 0 ≤ seed ∧ seed < 2147483647
theorem DrawsAt.new {H H' : Hp} {d c : Addr} (h : DrawsAt H d c) (e : Same H H') : DrawsAt H' d c := by
  obtain ⟨ns, pos, num, seed, h1, h2, h3⟩ := h
  exact ⟨ns, pos, num, seed, e _ _ h1, e _ _ h2, h3⟩
theorem DrawsAt.wr {H : Hp} {d c a : Addr} {o : HO} (h : DrawsAt H d c) (n1 : a ≠ d) (n2 : a ≠ c) : DrawsAt (upd H a o) d c := by
  obtain ⟨ns, pos, num, seed, h1, h2, h3⟩ := h
  exact ⟨ns, pos, num, seed, by rw [upd_ne n1.symm]; exact h1, by rw [upd_ne n2.symm]; exact h2, h3⟩
theorem DrawsAt.nd {H : Hp} {d c a : Addr} (h : DrawsAt H d c) (n : H a = none) : a ≠ d := by
  obtain ⟨ns, pos, num, seed, h1, h2, h3⟩ := h
  intro e
  rw [e, h1] at n
  cases n
theorem DrawsAt.nc {H : Hp} {d c a : Addr} (h : DrawsAt H d c) (n : H a = none) : a ≠ c := by
  obtain ⟨ns, pos, num, seed, h1, h2, h3⟩ := h
  intro e
  rw [e, h2] at n
  cases n
def spDraw (K : PySem.W.Frag) : Sp := fun vs H Q _ => ∃ (d c : Addr) (many : Int), vs = [.ref d, .int many] ∧ DrawsAt H d c ∧ 0 < many ∧ many < 2 ^ 200 ∧
  ∀ r H', 0 ≤ r → r < many → But d H H' → DrawsAt H' d c → Q (.int r) H'
def spDraws (K : PySem.W.Frag) : Sp := fun vs H Q _ => ∃ (a : Addr) (ns : List Int), vs = [.ref a] ∧ SqL K H a (ns.map V.int) ∧ ∀ d c H', H d = none → H c = none → Same H H' → DrawsAt H' d c → Q (.ref d) H'
theorem map_int_at {ns : List Int} {j : Nat} (h : j < ns.length) : (ns.map V.int)[j]? = some (V.int ns[j]) := by
  rw [List.getElem?_map, List.getElem?_eq_getElem h]
  rfl
theorem cell_at {ns : List Int} {z : Int} (h0 : 0 ≤ z) (h : z < ((ns.map V.int).length : Int)) : ∃ y, atI (ns.map V.int) z = some (V.int y) := by
  rw [List.length_map] at h
  have e : z = ((z.toNat : Nat) : Int) := (Int.toNat_of_nonneg h0).symm
  have q : (ns.map V.int)[z.toNat]? = some (V.int (ns[z.toNat]'(by omega))) := map_int_at (by omega)
  exact ⟨_, at_of e q⟩
theorem cut_map (ns : List Int) (lo hi : Option Int) : ∃ ms : List Int, cutV (ns.map V.int) lo hi = ms.map V.int := by
  unfold cutV
  rw [← List.map_drop, ← List.map_take]
  exact ⟨_, rfl⟩
def t__law_draws (K : PySem.W.Frag) : TS :=
  (tRet (tLst (tCons (tSl (rSlL K) (tVar 0) tNoPart (tPart (tC (.int 63)))) (tCons (tC (.int 0)) (tCons (tC (.int 0)) (tCons (tC (.int 5)) tNil))))))
def t__law_draw (K : PySem.W.Frag) : TS :=
  (tSeq (tAsg (tOp (rIxL K) (tVar 0) (tC (.int 0))) (gName 2))
    (tSeq (tIfS (tAnd (tTest (tOp rEq (tOp (rIxL K) (tVar 0) (tC (.int 2))) (tC (.int 0)))) (tAnd (tTest (tOp oLt (tOp (rIxL K) (tVar 0) (tC (.int 1))) (tCB (cLen K) (tCons (tVar 2) tNil)))) (tTest (tOp oGe (tOp (rIxL K) (tVar 2) (tOp (rIxL K) (tVar 0) (tC (.int 1)))) (tOp oPow (tC (.int 10)) (tC (.int 18))))))) (tSeq (tAsg (tOp (rIxL K) (tVar 2) (tOp (rIxL K) (tVar 0) (tC (.int 1)))) (gSub (tVar 0) (tC (.int 2)) rSetL))
    (tAsg (tOp oAdd (tOp (rIxL K) (tVar 0) (tC (.int 1))) (tC (.int 1))) (gSub (tVar 0) (tC (.int 1)) rSetL))) tNext)
    (tSeq (tIfS (tTest (tOp oGt (tOp (rIxL K) (tVar 0) (tC (.int 2))) (tC (.int 0)))) (tSeq (tAsg (tOp oMod (tOp (rIxL K) (tVar 0) (tC (.int 2))) (tVar 1)) (gName 3))
    (tSeq (tAsg (tOp oDiv (tOp (rIxL K) (tVar 0) (tC (.int 2))) (tVar 1)) (gSub (tVar 0) (tC (.int 2)) rSetL))
    (tRet (tVar 3)))) tNext)
    (tSeq (tAsg (tC (.int 0)) (gName 4))
    (tSeq (tIfS (tTest (tOp oLt (tOp (rIxL K) (tVar 0) (tC (.int 1))) (tCB (cLen K) (tCons (tVar 2) tNil)))) (tSeq (tAsg (tOp (rIxL K) (tVar 2) (tOp (rIxL K) (tVar 0) (tC (.int 1)))) (gName 4))
    (tAsg (tOp oAdd (tOp (rIxL K) (tVar 0) (tC (.int 1))) (tC (.int 1))) (gSub (tVar 0) (tC (.int 1)) rSetL))) tNext)
    (tSeq (tAsg (tOp oMod (tOp oAdd (tOp oAdd (tOp oMul (tOp (rIxL K) (tVar 0) (tC (.int 3))) (tC (.int 48271))) (tOp oMod (tVar 4) (tC (.int 1999993)))) (tC (.int 11))) (tC (.int 2147483647))) (gSub (tVar 0) (tC (.int 3)) rSetL))
    (tSeq (tAsg (tOp oMod (tOp oPow (tOp (rIxL K) (tVar 0) (tC (.int 3))) (tC (.int 5))) (tC (.int 2147483647))) (gName 5))
    (tSeq (tIfS (tTest (tOp oGt (tVar 1) (tOp oPow (tC (.int 10)) (tC (.int 9))))) (tAsg (tOp oAdd (tOp oPow (tVar 5) (tC (.int 4))) (tVar 5)) (gName 5)) tNext)
    (tRet (tOp oMod (tVar 5) (tVar 1)))))))))))
local macro_rules | `(tactic| walk_at "rv st") => `(tactic| first
  | with_reducible refine iteT ?_ | with_reducible refine iteF ?_ | with_reducible refine w_nx ?_ | with_reducible refine w_yes ?_ | with_reducible refine w_rt ?_ | with_reducible refine iteNT ?_ | with_reducible refine iteNF ?_ | with_reducible refine iteNRf ?_ | with_reducible refine iteRf ?_ | with_reducible refine w_seqA ?_ | with_reducible refine w_seqD ?_ | with_reducible refine w_seqP ?_ | with_reducible refine w_asg ?_ | with_reducible refine w_ret ?_ | with_reducible refine w_drop ?_ | with_reducible refine w_ifs ?_ | with_reducible refine w_next ?_ | with_reducible refine w_par ?_
  | with_reducible refine w_op ?_ | with_reducible refine w_un ?_ | ((with_reducible show tVar _ _ _ _); refine' w_var ?hv ?_; (case hv => exact rfl)) | with_reducible refine w_c ?_ | with_reducible refine w_test ?_ | with_reducible refine w_tB ?_
  | with_reducible refine w_bl ?_ | with_reducible refine w_I0 ?_ | with_reducible refine w_U ?_ | with_reducible refine w_eqI ?_ | with_reducible refine w_neI ?_
  | with_reducible refine w_cons ?_ | with_reducible refine w_nil ?_ | with_reducible refine w_gn ?_ | with_reducible refine w_gsub ?_ | with_reducible refine w_and ?_ | with_reducible refine w_or ?_ | with_reducible refine w_not ?_
  | with_reducible refine w_andV ?_ | with_reducible refine w_orV ?_ | with_reducible refine w_notV ?_ | with_reducible refine w_if ?_ | with_reducible refine w_cb ?_ | with_reducible refine w_call ?_ | with_reducible refine w_lst ?_ | with_reducible refine w_tup ?_
  | with_reducible refine w_sl ?_ | with_reducible refine w_noPart ?_ | with_reducible refine w_part ?_ | with_reducible refine w_ex1 ?_ | with_reducible refine w_exb ?_ | with_reducible refine w_intB ?_ | with_reducible refine w_intI ?_ | with_reducible refine w_abs ?_)
local macro_rules | `(tactic| walk_at "rv ix") => `(tactic| ((with_reducible show rIxL _ _ _ _ _); refine' w_ixL (sq_lst ?ha) ?hb ?_; (case ha => first | exact upd_same | assumption); (case hb => first | exact rfl | assumption)))
local macro_rules | `(tactic| walk_at "rv ar") => `(tactic| first
  | (refine' w_I ?hc ?_; (case hc => first | (show (0 : Int) < _; first | assumption | decide | omega) | exact pow_c (by decide) (by decide) (by first | decide | omega) (by first | decide | omega) | exact mul_r (by first | decide | omega) (by first | decide | omega) | exact mul_l (by first | decide | omega) (by first | decide | omega) | exact divw (by first | assumption | decide | omega) (by first | assumption | decide | omega))))
local macro_rules | `(tactic| walk_at "rv go") => `(tactic| repeat first | walk_at "rv st" | walk_at "rv ix" | ((with_reducible show rI _ _ _ _ _ _); walk_at "rv ar"))
theorem p_draws {K : PySem.W.Frag} {vs : List V} {H : Hp} {Q : VK} {E : XK} (h : spDraws K vs H Q E) : t__law_draws K { nx := fun _ H' => Q .non H', rt := Q } (start ["_law_script"] vs) H := by
  obtain ⟨a, ns, rfl, hS, k⟩ := h
  unfold t__law_draws
  walk_at "rv go"
  refine w_slL hS fun p np => ?_
  walk_at "rv go"
  refine ⟨szl (by simp), fun q nq => ?_⟩
  have npq : p ≠ q := fun e => by
    rw [e, upd_same] at nq
    cases nq
  have nH : H q = none := by
    rw [upd_ne npq.symm] at nq
    exact nq
  obtain ⟨ms, em⟩ := cut_map ns none (some 63)
  refine k q p _ nH np (same_new (same_new (Same.refl H) np) nq) ⟨ms, 0, 0, 5, upd_same, ?_, npq, by decide, by decide, by decide, by decide⟩
  rw [upd_ne npq, upd_same, em]
theorem p_draw {K : PySem.W.Frag} {vs : List V} {H : Hp} {Q : VK} {E : XK} (h : spDraw K vs H Q E) : t__law_draw K { nx := fun _ H' => Q .non H', rt := Q } (start ["_law_draws_here", "_law_many", "_law_cells", "_law_value", "_law_cell", "_law_mixed"] vs) H := by
  obtain ⟨d, c, many, rfl, ⟨ns, pos, num, seed, hd, hc, ncd, hp, hn, hs, hs2⟩, hm, hm2, k⟩ := h
  have e18 : (0 : Int) < 10 ^ (18 : Int).toNat := by decide
  have sqc : ∀ {H1 : Hp}, But d H H1 → SqL K H1 c (ns.map V.int) := fun e => sq_lst (e _ _ ncd hc)
  unfold t__law_draw
  walk_at "rv go"
  -- a number is taken from the cells, or not
  refine w_cut (fun σ' H1 => ∃ pos num : Int, σ' = [some (.ref d), some (.int many), some (.ref c), none, none, none] ∧ H1 d = some (.lst [.ref c, .int pos, .int num, .int seed]) ∧ But d H H1 ∧ 0 ≤ pos ∧ 0 ≤ num) (fun N key => ?_) ?_
  · refine w_ifs ?_
    walk_at "rv go"
    refine w_both (fun h1 => ?_) (fun h1 => ?_)
    · walk_at "rv go"
      refine w_lenL (sq_lst hc) ?_
      walk_at "rv go"
      refine w_both (fun h2 => ?_) (fun h2 => ?_)
      · obtain ⟨y, hy⟩ := cell_at hp h2
        walk_at "rv go"
        refine w_both (fun h3 => ?_) (fun h3 => ?_)
        · walk_at "rv go"
          refine w_setL hd rfl ?_
          walk_at "rv go"
          refine w_setL upd_same rfl ?_
          refine key _ _ ⟨pos + 1, y, rfl, upd_same, (But.refl d H).wr.wr, by omega, by omega⟩
        · walk_at "rv go"
          exact key _ _ ⟨pos, num, rfl, hd, But.refl d H, hp, hn⟩
      · walk_at "rv go"
        exact key _ _ ⟨pos, num, rfl, hd, But.refl d H, hp, hn⟩
    · walk_at "rv go"
      exact key _ _ ⟨pos, num, rfl, hd, But.refl d H, hp, hn⟩
  · rintro σ1 H1 ⟨pos, num, rfl, hd, b1, hp, hn⟩
    refine w_seq ?_
    walk_at "rv go"
    refine w_both (fun h1 => ?_) (fun h1 => ?_)
    · -- a digit of the number
      walk_at "rv go"
      refine w_setL hd rfl ?_
      walk_at "rv go"
      refine k _ _ (Int.emod_nonneg _ (by omega)) (Int.emod_lt_of_pos _ hm) b1.wr ⟨ns, pos, num / many, seed, upd_same, b1.wr _ _ ncd hc, ncd, hp, Int.ediv_nonneg hn (by omega), hs, hs2⟩
    · -- from the seed
      walk_at "rv go"
      refine w_cut (fun σ' H2 => ∃ pos cell : Int, σ' = [some (.ref d), some (.int many), some (.ref c), none, some (.int cell), none] ∧ H2 d = some (.lst [.ref c, .int pos, .int num, .int seed]) ∧ But d H H2 ∧ 0 ≤ pos) (fun N key => ?_) ?_
      · walk_at "rv go"
        refine w_lenL (sqc b1) ?_
        walk_at "rv go"
        refine w_both (fun h2 => ?_) (fun h2 => ?_)
        · obtain ⟨y, hy⟩ := cell_at hp h2
          walk_at "rv go"
          refine w_ixL (sqc b1) hy ?_
          walk_at "rv go"
          refine w_setL hd rfl ?_
          exact key _ _ ⟨pos + 1, y, rfl, upd_same, b1.wr, by omega⟩
        · refine w_next ?_
          exact key _ _ ⟨pos, 0, rfl, hd, b1, hp⟩
      · rintro σ2 H2 ⟨pos, cell, rfl, hd, b2, hp⟩
        walk_at "rv go"
        refine w_setL hd rfl ?_
        have s1 : 0 ≤ (seed * 48271 + cell % 1999993 + 11) % 2147483647 := Int.emod_nonneg _ (by decide)
        have s2 : (seed * 48271 + cell % 1999993 + 11) % 2147483647 < 2147483647 := Int.emod_lt_of_pos _ (by decide)
        generalize (seed * 48271 + cell % 1999993 + 11) % 2147483647 = sd at s1 s2
        walk_at "rv go"
        have m1 : 0 ≤ sd ^ (5 : Int).toNat % 2147483647 := Int.emod_nonneg _ (by decide)
        have m2 : sd ^ (5 : Int).toNat % 2147483647 < 2147483647 := Int.emod_lt_of_pos _ (by decide)
        generalize sd ^ (5 : Int).toNat % 2147483647 = mx at m1 m2
        have fin : ∀ z : Int, Q (.int (z % many)) (upd H2 d (.lst [.ref c, .int pos, .int num, .int sd])) := fun z =>
          k _ _ (Int.emod_nonneg _ (by omega)) (Int.emod_lt_of_pos _ hm) b2.wr ⟨ns, pos, num, sd, upd_same, b2.wr _ _ ncd hc, ncd, hp, hn, s1, s2⟩
        refine w_seq ?_
        refine w_ifs ?_
        walk_at "rv go"
        refine w_both (fun h2 => ?_) (fun h2 => ?_)
        · walk_at "rv go"
          exact fin _
        · walk_at "rv go"
          exact fin _
end Rv
/-! enumerate of a tuple, and of a list or a tuple. -/
namespace PySem
theorem rv_enum_newT (l : Addr) (items : Array Value) (n : Nat) (dct : Option Addr) (sl : Array (Option Value)) :
    Meets (Builtin.«enumerate.__new__» ⟨[.type "enumerate", .ref l], []⟩) (fun _ R s => s.heap.get? l = some { cls := .type "tuple", dict := dct, data := .seq items n, slots := sl } ∧
      R (.ok (.ret (.ref (s.heap.push { cls := .type "tuple_iterator", data := .fields #[.ref l, .int 0 0] }).objs.size)))
        { s with heap := (s.heap.push { cls := .type "tuple_iterator", data := .fields #[.ref l, .int 0 0] }).push { cls := .type "enumerate", data := .fields #[.none, .bool false, .ref s.heap.objs.size, rawInt 0, .none, .none] } }) :=
  .of_wp fun prog w A R s h => by
    obtain ⟨hp, g, d, tk, os⟩ := s
    obtain ⟨hl, h⟩ := h
    have hsub := sub_enumerate
    have hL : Heap.IsTuple (Shared.heap ⟨hp, g, d, tk, os⟩) l items := ⟨_, hl, rfl, n, rfl⟩
    wp_walk using wpAny_loadPart' hl
    refine wpAny_stack_any fun st => wpAny_pure ?_
    split
    · rename_i c _ _ _ _ _
      cases (c == Value.type "enumerate")
      · wp_walk using wpAny_loadPart' hl, wpAny_pyIter_tuple hL
        exact ⟨_, rfl, h⟩
      · wp_walk using wpAny_loadPart' hl, wpAny_pyIter_tuple hL
        exact ⟨_, rfl, h⟩
    · wp_walk using wpAny_loadPart' hl, wpAny_pyIter_tuple hL
      exact ⟨_, rfl, h⟩
section
variable {prog : Program} {w : World} {A : Around} {E : Value → Shared → Prop} {s : Shared}
theorem rv_call_enumT {l : Addr} {items : Array Value} {Q : Value → Shared → Prop} (hL : s.heap.IsTuple l items)
    (h : ∀ h', IsEnum h' (s.heap.objs.size + 1) s.heap.objs.size 0 .none → h'.IsTupleIter s.heap.objs.size l 0 → h'.objs.size = s.heap.objs.size + 2 →
      (∀ b o, s.heap.get? b = some o → h'.get? b = some o) → Q (.ref (s.heap.objs.size + 1)) { s with heap := h' }) :
    wpAny (model prog w) A (call (.type "enumerate") [.ref l]) Q E s := by
  obtain ⟨⟨c, dct, dt, sl⟩, hl, hc, n, hd⟩ := hL
  replace hc : c = .type "tuple" := hc
  replace hd : dt = .seq items n := hd
  subst hc hd
  refine callType_new F.called_enumerate (by decide) (F.typeCall_enumerate_1 _) (F.newCall_enumerate_1 _) (fun obj => F.args_object_init_2 obj _) F.entry_enumerate_new
    (rv_enum_newT l items n dct sl) ⟨hl, ?_⟩
  have hz : (s.heap.push { cls := .type "tuple_iterator", data := .fields #[.ref l, .int 0 0] }).objs.size = s.heap.objs.size + 1 := Heap.size_push ..
  show _ ∧ _
  rw [hz]
  have he : IsEnum ((s.heap.push { cls := .type "tuple_iterator", data := .fields #[.ref l, .int 0 0] }).push
      { cls := .type "enumerate", data := .fields #[.none, .bool false, .ref s.heap.objs.size, rawInt 0, .none, .none] }) (s.heap.objs.size + 1) s.heap.objs.size 0 .none := by
    have := Heap.get?_push_size (s.heap.push { cls := .type "tuple_iterator", data := .fields #[.ref l, .int 0 0] })
      (o := { cls := .type "enumerate", data := .fields #[.none, .bool false, .ref s.heap.objs.size, rawInt 0, .none, .none] }) rfl
    rw [hz] at this
    exact this
  refine ⟨⟨_, he, rfl⟩, h _ he ⟨_, Heap.get?_push_of_some _ (Heap.get?_push_size _ rfl), rfl, rfl⟩ (by rw [Heap.size_push, hz]) fun b o x => Heap.get?_push_of_some _ (Heap.get?_push_of_some _ x)⟩
theorem rv_enum_endT {e it l : Addr} {i : Nat} {items : Array Value} {old : Value} {Q : Option Value → Shared → Prop} (hh : A.handled = none)
    (he : IsEnum s.heap e it i old) (hit : s.heap.IsTupleIter it l i) (hl : s.heap.IsTuple l items) (hx : items[i]? = none)
    (hQ : ∀ h', Heap.ExtBut it s.heap h' → Q none { s with heap := h' }) : wpAny (model prog w) A (pyNext (.ref e)) Q E s := by
  have hT : s.TypeIs (.ref e) "enumerate" := ⟨_, he, rfl⟩
  unfold pyNext
  refine wpAny_bind (wpAny_attempt (wpAny_callSpecial?_slot (name := Str.ofString "__next__") hT F.slot_enumerate_next
    (wpAny_call_entry F.slot_enumerate_next hT F.entry_enumerate_next ?_ (F.args_enumerate_next_1 _))))
  show wpAny _ _ (field (.ref e) 2 >>= _) _ _ _
  refine wpAny_bind (wpAny_field he rfl (x := .ref it) rfl ?_)
  refine wpAny_bind (wpAny_nextOf_tuple_end hh hit hl hx fun h' x he' hx' => ?_)
  obtain ⟨o, ho, hc⟩ := hx'
  refine wpAny_bind (wpAny_isInstance (T := "StopIteration") (b := true) ⟨o, ho, hc⟩ isSubtype_stop ?_)
  exact wpAny_pure (hQ _ he')
end
end PySem
namespace Rv
open PySem PySem.Spec PyProof.Rows L2
/-- the tuple at a, each item in a new pair -/
def IteT (K : PySem.W.Frag) (a : Addr) : It :=
  ⟨fun i H => ∃ (xs : List V) (x : V), SqT K H a xs ∧ xs[i]? = some x, fun i H v H' => ∃ T x, v = .ref T ∧ H T = none ∧ H' = upd H T (.tup [.int (i : Nat), x]) ∧ ∀ xs, SqT K H a xs → xs[i]? = some x, fun i H => ∃ xs : List V, SqT K H a xs ∧ xs.length ≤ i⟩
theorem turn_enumT {P : Program} {w : World} {K : PySem.W.Frag} {elts : List Expr} {kk : Nat} {tpos : Pos} (a e it : Addr) :
    Turn P w K (.Tuple elts kk tpos) (IteT K a) [e, it] e (fun i h => (∃ old, IsEnum h e it ((i : Nat) : Int) old) ∧ h.IsTupleIter it a i ∧ e ≠ it ∧ a ≠ it ∧ e ≠ a) where
  mem := by simp
  obj := fun i h st b hb => by
    obtain ⟨⟨old, he⟩, ⟨o, ho, hc, hd⟩, _⟩ := st
    have e' : b = e ∨ b = it := by simpa using hb
    rcases e' with z | z
    · rw [z]
      exact ⟨_, he, fun v q => nomatch q⟩
    · rw [z]
      exact ⟨o, ho, fun v q => by rw [hd] at q; cases q⟩
  keep := fun i h h' st k => let ⟨⟨old, he⟩, hi, hne⟩ := st; ⟨⟨old, k e (by simp) _ he⟩, hi.at fun o q => k it (by simp) o q, hne⟩
  item := by
    intro X hP hw hK hc i pins s σ H E I hf st hg
    subst hP hw hK
    obtain ⟨⟨old, he⟩, hit, hne, hai, hea⟩ := st
    obtain ⟨xs, x, hq, hx⟩ := hg
    obtain ⟨its, rv, p, hz⟩ := I.tuple hq
    obtain ⟨u, hu, ru⟩ := rv.get hx
    have hel : e < s.heap.objs.size := Heap.lt_size he
    have hil : it < s.heap.objs.size := by obtain ⟨_, q, _⟩ := hit; exact Heap.lt_size q
    have hil2 : i < its.toArray.size := by
      rw [List.size_toArray]
      exact (List.getElem?_eq_some_iff.mp hu).1
    refine wpAny_pyNext_enum_itemD (Draws.tuple (A := X.A.in1) (I.ok.hd hc) it a hai its.toArray) he ⟨hit, p⟩ hil2 hne (by simp [hne, hea]) fun u' h' tk hu' ho hst' hT hsz hk => ?_
    obtain ⟨hit', _⟩ := hst'
    have eu : u' = u := by
      have h1 : its[i]? = some u' := by simpa using hu'
      rw [hu] at h1
      exact (Option.some.inj h1).symm
    subst eu
    refine ⟨_, rfl, wpAny_letOwnedTupleGo_enum (s := { s with heap := h', toks := tk + 1 }) ho fun h'' he' sb => ?_⟩
    have hT2 : h''.get? s.heap.objs.size = some { cls := .type "tuple", data := .seq #[.int i tk, u'] } := (sb.2 _ (Nat.ne_of_gt hel)).trans hT
    have new : ObjOk X.prog X.w (upd H s.heap.objs.size (.tup [.int (i : Nat), x])) h'' s.heap.objs.size (.tup [.int (i : Nat), x]) :=
      ⟨by show 2 ≤ sizeLine; decide, [.int i tk, u'], .cons ⟨_, rfl⟩ (.cons ru .nil), ⟨_, hT2, rfl, _, rfl⟩⟩
    have I1 : Inv X pins σ (upd H s.heap.objs.size (.tup [.int (i : Nat), x])) { s with heap := h'', toks := tk + 1 } :=
      I.turnedNew (t' := tk + 1) (ch := [e, it]) (fun b ob hb q => (sb.2 b (fun z => hb (by simp [z]))).trans (hk b ob (fun z => hb (by simp [z])) (fun z => hb (by simp [z])) q)) hf (Nat.le_refl _) new
    refine ⟨.ref s.heap.objs.size, _, I1, rfl, ⟨_, x, rfl, I.hok.fresh (Nat.le_refl _), rfl, fun ys hy => by rw [I.tuple_inj hy hq]; exact hx⟩, ⟨⟨u', ?_⟩, hit'.at fun o q => (sb.2 it (Ne.symm hne)).trans q, hne, hai, hea⟩, fun b hb => ?_⟩
    · have e1 : ((i + 1 : Nat) : Int) = (i : Int) + 1 := by omega
      rw [e1]
      exact he'
    · have hb' : b < s.heap.objs.size := by
        have e' : b = e ∨ b = it := by simpa using hb
        rcases e' with z | z
        · rw [z]; exact hel
        · rw [z]; exact hil
      rw [upd_ne (Nat.ne_of_lt hb')]
      exact (hf b hb).1
  done := by
    intro X hP hw hK hc i pins s σ H E I hf st hg
    subst hP hw hK
    obtain ⟨⟨old, he⟩, hit, hne, hai, hea⟩ := st
    obtain ⟨xs, hq, hx⟩ := hg
    obtain ⟨its, rv, p, hz⟩ := I.tuple hq
    obtain ⟨f0, f1, f2, f3, f4, f5⟩ := hf it (by simp)
    have hl := rv.length
    exact rv_enum_endT (I.ok.hd hc) he hit (show s.heap.IsTuple a its.toArray from p) (by simp; omega) fun h' eb => ⟨rfl, I.turned (t' := s.toks) (fun b o hb q => eb b o hb q) f0 f1 f3 f4 f5⟩
  self := fun A i s Q E st h => let ⟨⟨_, he⟩, _⟩ := st; wpAny_pyIter_enum he h
/-- enumerate of a list or a tuple -/
def iEnumA (K : PySem.W.Frag) (ta : TA) : TI := fun σ H R => ta σ H fun vs H1 => ∃ a xs, vs = [.ref a] ∧ ((SqL K H1 a xs ∧ R (Ite K a) H1) ∨ (SqT K H1 a xs ∧ R (IteT K a) H1))
theorem pi_enumA {X : Cx} {e : Expr} {ta : TA} {p pos tpos : Pos} {elts : List Expr} {kk : Nat} (hg : Gl X "enumerate") (hm : X.mg "enumerate" = none) (ha : PA X [e] ta) (hs : starEach [e] X.env = [(false, eval e X.env)] := by rfl) :
    PI X (.Tuple elts kk tpos) (.Call (.Name "enumerate" p) [e] [] pos) (iEnumA X.K ta) := by
  refine ⟨fun pins s σ H R I h => ?_⟩
  refine Call_ (ld_blt I hg hm boot_enumerate (PyProof.Rows.callWith_type1 (thn (ha.run pos pins s σ H _ I h) fun us s1 ⟨vs, H1, I1, r1, q1⟩ => ?_) hs rfl))
  obtain ⟨a, xs, ex, hq⟩ := q1
  subst ex
  cases r1 with
  | cons r rr =>
    cases rr
    cases r
    rcases hq with ⟨hq, q⟩ | ⟨hq, q⟩
    · obtain ⟨its, rv, p', hz⟩ := I1.list hq
      refine call_enumerate_list p'.isList fun h' he hit hsz hk => wpAny_pyIter_enum he ?_
      have I2 : Inv X pins σ H1 { s1 with heap := h' } := I1.kept (t' := s1.toks) hk
      refine ⟨s1.heap.objs.size + 1, [s1.heap.objs.size + 1, s1.heap.objs.size], _, _, H1, rfl, I2, turn_enum a (s1.heap.objs.size + 1) s1.heap.objs.size, ⟨⟨.none, he⟩, hit, Nat.succ_ne_self _⟩, fun b hb => ?_, q⟩
      have e' : b = s1.heap.objs.size + 1 ∨ b = s1.heap.objs.size := by simpa using hb
      have hle : s1.heap.objs.size ≤ b := by
        rcases e' with z | z
        · rw [z]; exact Nat.le_add_right _ _
        · rw [z]; exact Nat.le_refl _
      exact I1.fpOk hle (I1.hok.fresh hle)
    · obtain ⟨its, rv, p', hz⟩ := I1.tuple hq
      have al : a < s1.heap.objs.size := by
        obtain ⟨_, q1, _⟩ := p'
        exact Heap.lt_size q1
      refine rv_call_enumT (show s1.heap.IsTuple a its.toArray from p') fun h' he hit hsz hk => wpAny_pyIter_enum he ?_
      have I2 : Inv X pins σ H1 { s1 with heap := h' } := I1.kept (t' := s1.toks) hk
      refine ⟨s1.heap.objs.size + 1, [s1.heap.objs.size + 1, s1.heap.objs.size], _, _, H1, rfl, I2, turn_enumT a (s1.heap.objs.size + 1) s1.heap.objs.size, ⟨⟨.none, he⟩, hit, Nat.succ_ne_self _, Nat.ne_of_lt al, Nat.ne_of_gt (Nat.lt_succ_of_lt al)⟩, fun b hb => ?_, q⟩
      have e' : b = s1.heap.objs.size + 1 ∨ b = s1.heap.objs.size := by simpa using hb
      have hle : s1.heap.objs.size ≤ b := by
        rcases e' with z | z
        · rw [z]; exact Nat.le_add_right _ _
        · rw [z]; exact Nat.le_refl _
      exact I1.fpOk hle (I1.hok.fresh hle)
section
variable {K : PySem.W.Frag} {σ : L2.St} {H : Hp} {Q : VK} {D : Ends} {tr : TA} {g : TG} {s1 : TS} {a : Addr} {xs : List V}
/-- for i, x in enumerate(a list or a tuple): each turn has a new pair -/
theorem w_forEA (ha : ∀ AQ : List V → Hp → Prop, AQ [.ref a] H → tr σ H AQ) (hx : SqL K H a xs ∨ SqT K H a xs) (Pv : Nat → L2.St → Hp → Prop) (h0 : Pv 0 σ H) (hl : ∀ i σ' H', Pv i σ' H' → (SqL K H a xs → SqL K H' a xs) ∧ (SqT K H a xs → SqT K H' a xs))
    (hs : ∀ i x T σ' H', xs[i]? = some x → Pv i σ' H' → H' T = none → g (.ref T) σ' (upd H' T (.tup [.int (i : Int), x])) fun σ2 H2 => s1 { D with nx := Pv (i + 1), ct := Pv (i + 1), bk := D.nx } σ2 H2)
    (hd : ∀ σ' H', Pv xs.length σ' H' → D.nx σ' H') : tFor (iEnumA K tr) g s1 D σ H := by
  rcases hx with hx | hx
  · refine ha _ ⟨a, xs, rfl, .inl ⟨hx, fun i m σ' H' => m = xs.length - i ∧ i ≤ xs.length ∧ Pv i σ' H', ⟨xs.length, by simp, Nat.zero_le _, h0⟩, ?_⟩⟩
    rintro i m σ' H' ⟨rfl, hi, q⟩
    have hq := (hl i σ' H' q).1 hx
    by_cases hlt : i < xs.length
    · refine .inr ⟨⟨xs, xs[i], hq, List.getElem?_eq_getElem hlt⟩, fun σ2 H2 => Pv (i + 1) σ2 H2, fun σ2 H2 q2 => ⟨xs.length - (i + 1), by omega, rfl, hlt, q2⟩, ?_⟩
      rintro x H2 ⟨T, z, rfl, nT, rfl, hz⟩
      exact hs i z T σ' H' (hz xs hq) q nT
    · have e : i = xs.length := by omega
      subst e
      exact .inl ⟨⟨xs, hq, Nat.le_refl _⟩, hd σ' H' q⟩
  · refine ha _ ⟨a, xs, rfl, .inr ⟨hx, fun i m σ' H' => m = xs.length - i ∧ i ≤ xs.length ∧ Pv i σ' H', ⟨xs.length, by simp, Nat.zero_le _, h0⟩, ?_⟩⟩
    rintro i m σ' H' ⟨rfl, hi, q⟩
    have hq := (hl i σ' H' q).2 hx
    by_cases hlt : i < xs.length
    · refine .inr ⟨⟨xs, xs[i], hq, List.getElem?_eq_getElem hlt⟩, fun σ2 H2 => Pv (i + 1) σ2 H2, fun σ2 H2 q2 => ⟨xs.length - (i + 1), by omega, rfl, hlt, q2⟩, ?_⟩
      rintro x H2 ⟨T, z, rfl, nT, rfl, hz⟩
      exact hs i z T σ' H' (hz xs hq) q nT
    · have e : i = xs.length := by omega
      subst e
      exact .inl ⟨⟨xs, hq, Nat.le_refl _⟩, hd σ' H' q⟩
end
end Rv
namespace Rv
open PySem PySem.Spec PyProof.Rows L2
theorem draw_call {K : PySem.W.Frag} {H : Hp} {Q : VK} {E : XK} {d c : Addr} {many : Int} (h : DrawsAt H d c) (h1 : 0 < many) (h2 : many < 2 ^ 200) (k : ∀ r H', 0 ≤ r → r < many → But d H H' → DrawsAt H' d c → Q (.int r) H') :
    spDraw K ([.ref d, .int many] ++ []) H Q E := ⟨d, c, many, rfl, h, h1, h2, k⟩
/-- a height, a width of the law -/
def HOk1 (z : Int) : Prop := -1000000000000000000000000000000 ≤ z ∧ z ≤ 1000000000000000000000000000000
def WOk1 (z : Int) : Prop := 1 ≤ z ∧ z ≤ 1000000000000000000000000000000
def spHeights (K : PySem.W.Frag) : Sp := fun vs H Q _ => ∃ d c, vs = [.ref d] ∧ DrawsAt H d c ∧
  ∀ p H' (hs : List Int), 1 ≤ hs.length → hs.length ≤ 60 → (∀ z ∈ hs, HOk1 z) → But d H H' → DrawsAt H' d c → H p = none → H' p = some (.lst (hs.map V.int)) → Q (.ref p) H'
def spWidths (K : PySem.W.Frag) : Sp := fun vs H Q _ => ∃ d c, ∃ n : Nat, vs = [.ref d, .int (n : Int)] ∧ n ≤ 60 ∧ DrawsAt H d c ∧
  ∀ p H' (ws : List Int), ws.length = n → (∀ z ∈ ws, WOk1 z) → But d H H' → DrawsAt H' d c → H p = none → H' p = some (.lst (ws.map V.int)) → Q (.ref p) H'
theorem map_app (l : List Int) (z : Int) : l.map V.int ++ [V.int z] = (l ++ [z]).map V.int := by rw [List.map_append]; rfl
/-! values: is it an integer -/
def isI : V → Bool
  | .int _ => true
  | _ => false
def spWhole (K : PySem.W.Frag) : Sp := fun vs H Q _ => ∃ v, vs = [v] ∧ Whole K H v ∧ Q (.bl (isI v)) H
def spWithin (K : PySem.W.Frag) : Sp := fun vs H Q _ => ∃ v lo hi, vs = [v, .int lo, .int hi] ∧ Whole K H v ∧ Q (.bl (inI lo hi v)) H
def spOutside (K : PySem.W.Frag) : Sp := fun vs H Q _ => ∃ a lo hi xs, vs = [.ref a, .int lo, .int hi] ∧ (SqL K H a xs ∨ SqT K H a xs) ∧ (∀ x ∈ xs, Whole K H x) ∧ ∀ H', Same H H' → Q (outs lo hi xs 0) H'
theorem isi_of {K : PySem.W.Frag} {H : Hp} {Q : VK} {x c : V} {t u : Value} {b : Bool} (h1 : ClsV c u) (h2 : TyX K H x t) (h3 : PySem.W.kitOne K t u = some b) (q : Q (.bl b) H) : rIsi K [x, c] H Q := ⟨x, c, t, u, b, rfl, h1, h2, h3, q⟩
theorem kit_ii {K : PySem.W.Frag} : PySem.W.kitOne K (.type "int") (.type "int") = some true := kit_ty (by decide +kernel)
theorem kit_ib {K : PySem.W.Frag} : PySem.W.kitOne K (.type "int") (.type "bool") = some false := kit_ty (by decide +kernel)
theorem kit_bi {K : PySem.W.Frag} : PySem.W.kitOne K (.type "bool") (.type "int") = some true := kit_ty (by decide +kernel)
theorem kit_bb {K : PySem.W.Frag} : PySem.W.kitOne K (.type "bool") (.type "bool") = some true := kit_ty (by decide +kernel)
theorem kit_ll {K : PySem.W.Frag} : PySem.W.kitOne K (.type "list") (.type "list") = some true := kit_ty (by decide +kernel)
theorem kit_tl {K : PySem.W.Frag} : PySem.W.kitOne K (.type "tuple") (.type "list") = some false := kit_ty (by decide +kernel)
theorem kit_tt {K : PySem.W.Frag} : PySem.W.kitOne K (.type "tuple") (.type "tuple") = some true := kit_ty (by decide +kernel)
theorem RowAt.same {K : PySem.W.Frag} {H H' : Hp} {a : Addr} {xs : List V} (h : RowAt K H a xs) (e : Same H H') : RowAt K H' a xs := h.elim (fun h => .inl (e _ _ h)) fun h => .inr (e _ _ h)
def spRow (K : PySem.W.Frag) : Sp := fun vs H Q _ => ∃ a lo hi xs, vs = [.ref a, .int lo, .int hi] ∧ RowAt K H a xs ∧ ∀ H', Same H H' → Q (.bl (decide (lo ≤ (xs.length : Int)) && decide ((xs.length : Int) ≤ hi))) H'
def pfl (t1 t2 : Addr) : List (Str × V) := putF "column_widths" (.ref t2) (putF "column_heights" (.ref t1) [])
/-- a Profile stands at p -/
def ProfAt (K : PySem.W.Frag) (C : Addr) (H : Hp) (p : Addr) (hs ws : List Int) : Prop := ∃ dx t1 t2, H p = some (.ins C dx (pfl t1 t2)) ∧ H t1 = some (.tup (hs.map V.int)) ∧ H t2 = some (.tup (ws.map V.int))
theorem ProfAt.same {K : PySem.W.Frag} {C : Addr} {H H' : Hp} {p : Addr} {hs ws : List Int} (h : ProfAt K C H p hs ws) (e : Same H H') : ProfAt K C H' p hs ws := by
  obtain ⟨dx, t1, t2, h1, h2, h3⟩ := h
  exact ⟨dx, t1, t2, e _ _ h1, e _ _ h2, e _ _ h3⟩
/-- what is told of the class as the top has made it -/
structure PCls (K : PySem.W.Frag) (C : Addr) : Prop where
  cl : Cls K C
  nH : NoAttr K C "column_heights"
  nW : NoAttr K C "column_widths"
  cA : PySem.W.findIn K (.ref C) "__class__" = some (some (.builtin "object.__class__"))
  cG : PySem.W.specialIn K (.builtin "object.__class__") "__get__" = some (some (.builtin "getset_descriptor.__get__"))
  cT : PySem.W.takesIn K (.builtin "object.__class__") = some true
  cM : PySem.W.mroIn K C (.type "object") = some true
def t__law_heights (K : PySem.W.Frag) : TS :=
  (tSeq (tAsg (tOp oAdd (tC (.int 1)) (tCall (spDraw K) [] E0 (tCons (tVar 0) (tCons (tOp (rIxL K) (tLst (tCons (tC (.int 9)) (tCons (tC (.int 60)) tNil))) (tCB cInt (tCons (tOp rEq (tCall (spDraw K) [] E0 (tCons (tVar 0) (tCons (tC (.int 4)) tNil))) (tC (.int 3))) tNil))) tNil)))) (gName 1))
    (tSeq (tAsg (tOp (rIxL K) (tLst (tCons (tC (.int 2)) (tCons (tC (.int 7)) (tCons (tOp oPow (tC (.int 10)) (tC (.int 6))) (tCons (tOp oPow (tC (.int 10)) (tC (.int 30))) tNil))))) (tCall (spDraw K) [] E0 (tCons (tVar 0) (tCons (tC (.int 4)) tNil)))) (gName 2))
    (tRet (tLc (iRng1 (tCons (tVar 1) tNil)) (gName 3) tYes (tOp oSub (tCall (spDraw K) [] E0 (tCons (tVar 0) (tCons (tOp oAdd (tOp oMul (tC (.int 2)) (tVar 2)) (tC (.int 1))) tNil))) (tVar 2)) [3]))))
def t__law_widths (K : PySem.W.Frag) : TS :=
  (tSeq (tAsg (tOp (rIxL K) (tLst (tCons (tC (.int 1)) (tCons (tC (.int 3)) (tCons (tOp oPow (tC (.int 10)) (tC (.int 30))) tNil)))) (tCall (spDraw K) [] E0 (tCons (tVar 0) (tCons (tC (.int 3)) tNil)))) (gName 2))
    (tRet (tLc (iRng1 (tCons (tVar 1) tNil)) (gName 3) tYes (tOp oAdd (tC (.int 1)) (tCall (spDraw K) [] E0 (tCons (tVar 0) (tCons (tVar 2) tNil)))) [3])))
def t_is_whole (K : PySem.W.Frag) : TS :=
  (tRet (tAndV (tCB (rIsi K) (tCons (tVar 0) (tCons (tC (.ty "int")) tNil))) (tNotV (tCB (rIsi K) (tCons (tVar 0) (tCons (tC (.ty "bool")) tNil))))))
def t_is_whole_within (K : PySem.W.Frag) : TS :=
  (tRet (tAndV (tCall (spWhole K) [] E0 (tCons (tVar 0) tNil)) (tChain oLe oLe (tVar 1) (tVar 0) (tVar 2))))
def t_first_outside (K : PySem.W.Frag) : TS :=
  (tSeq (tFor (iEnumA K (tCons (tVar 0) tNil)) (gTup K 2 (gCons (gName 3) (gCons (gName 4) gNil))) (tIfS (tNot (tB (tCall (spWithin K) [] E0 (tCons (tVar 4) (tCons (tVar 1) (tCons (tVar 2) tNil)))))) (tRet (tVar 3)) tNext))
    (tRet (tC .non)))
def t_is_row (K : PySem.W.Frag) : TS :=
  (tRet (tAndV (tCB (rIsiT K) (tCons (tVar 0) (tCons (tTup (tCons (tC (.ty "list")) (tCons (tC (.ty "tuple")) tNil))) tNil))) (tChain oLe oLe (tVar 1) (tCB (cLen K) (tCons (tVar 0) tNil)) (tVar 2))))
local macro_rules | `(tactic| walk_at "rv st") => `(tactic| first
  | with_reducible refine iteT ?_ | with_reducible refine iteF ?_ | with_reducible refine w_nx ?_ | with_reducible refine w_yes ?_ | with_reducible refine w_rt ?_ | with_reducible refine iteNT ?_ | with_reducible refine iteNF ?_ | with_reducible refine iteNRf ?_ | with_reducible refine iteRf ?_ | with_reducible refine w_seqA ?_ | with_reducible refine w_seqD ?_ | with_reducible refine w_seqP ?_ | with_reducible refine w_asg ?_ | with_reducible refine w_ret ?_ | with_reducible refine w_drop ?_ | with_reducible refine w_ifs ?_ | with_reducible refine w_next ?_ | with_reducible refine w_par ?_
  | with_reducible refine w_op ?_ | with_reducible refine w_un ?_ | ((with_reducible show tVar _ _ _ _); refine' w_var ?hv ?_; (case hv => exact rfl)) | with_reducible refine w_c ?_ | with_reducible refine w_test ?_ | with_reducible refine w_tB ?_
  | with_reducible refine w_bl ?_ | with_reducible refine w_I0 ?_ | with_reducible refine w_U ?_ | with_reducible refine w_eqI ?_ | with_reducible refine w_neI ?_
  | with_reducible refine w_cons ?_ | with_reducible refine w_nil ?_ | with_reducible refine w_gn ?_ | with_reducible refine w_gsub ?_ | with_reducible refine w_and ?_ | with_reducible refine w_or ?_ | with_reducible refine w_not ?_
  | with_reducible refine w_andV ?_ | with_reducible refine w_orV ?_ | with_reducible refine w_notV ?_ | with_reducible refine w_if ?_ | with_reducible refine w_cb ?_ | with_reducible refine w_call ?_ | with_reducible refine w_lst ?_ | with_reducible refine w_tup ?_
  | with_reducible refine w_sl ?_ | with_reducible refine w_noPart ?_ | with_reducible refine w_part ?_ | with_reducible refine w_ex1 ?_ | with_reducible refine w_exb ?_ | with_reducible refine w_intB ?_ | with_reducible refine w_intI ?_ | with_reducible refine w_abs ?_)
local macro_rules | `(tactic| walk_at "rv ix") => `(tactic| ((with_reducible show rIxL _ _ _ _ _); refine' w_ixL (sq_lst ?ha) ?hb ?_; (case ha => first | exact upd_same | assumption); (case hb => first | exact rfl | assumption)))
local macro_rules | `(tactic| walk_at "rv ar") => `(tactic| first
  | (refine' w_I ?hc ?_; (case hc => first | (show (0 : Int) < _; first | assumption | decide | omega) | exact pow_c (by decide) (by decide) (by first | decide | omega) (by first | decide | omega) | exact mul_r (by first | decide | omega) (by first | decide | omega) | exact mul_l (by first | decide | omega) (by first | decide | omega) | exact divw (by first | assumption | decide | omega) (by first | assumption | decide | omega))))
local macro_rules | `(tactic| walk_at "rv go") => `(tactic| repeat first | walk_at "rv st" | walk_at "rv ix" | ((with_reducible show rI _ _ _ _ _ _); walk_at "rv ar"))
theorem p_heights {K : PySem.W.Frag} {vs : List V} {H : Hp} {Q : VK} {E : XK} (h : spHeights K vs H Q E) : t__law_heights K { nx := fun _ H' => Q .non H', rt := Q } (start ["_law_draws_here", "_law_many", "_law_size", "_law_k"] vs) H := by
  obtain ⟨d, c, rfl, hD, k⟩ := h
  unfold t__law_heights
  walk_at "rv go"
  refine ⟨szl (by decide), fun p1 n1 => ?_⟩
  have n1d : p1 ≠ d := hD.nd n1
  walk_at "rv go"
  have b1 : But d H (upd H p1 (.lst [.int 9, .int 60])) := (But.refl d H).new n1
  refine draw_call (hD.new (same_new (Same.refl H) n1)) (by decide) (by decide) fun r1 H1 r1a r1b e1 D1 => ?_
  walk_at "rv go"
  have l1 : H1 p1 = some (.lst [.int 9, .int 60]) := e1 _ _ n1d upd_same
  have hm : ∃ m : Int, 0 < m ∧ m ≤ 60 ∧ atI [V.int 9, V.int 60] (if decide (r1 = 3) then 1 else 0) = some (.int m) := by
    by_cases z : r1 = 3
    · rw [decide_eq_true z]
      exact ⟨60, by decide, by decide, rfl⟩
    · rw [decide_eq_false z]
      exact ⟨9, by decide, by decide, rfl⟩
  obtain ⟨m, m0, m60, em⟩ := hm
  refine w_ixL (sq_lst l1) em ?_
  walk_at "rv go"
  refine draw_call D1 m0 (Int.lt_of_le_of_lt m60 (by decide)) fun r2 H2 r2a r2b e2 D2 => ?_
  walk_at "rv go"
  refine ⟨szl (by decide), fun p2 n2 => ?_⟩
  walk_at "rv go"
  have n2d : p2 ≠ d := D2.nd n2
  refine draw_call (D2.new (same_new (Same.refl H2) n2)) (by decide) (by decide) fun r3 H3 r3a r3b e3 D3 => ?_
  have l3 : H3 p2 = some (.lst [.int 2, .int 7, .int (10 ^ Int.toNat 6), .int (10 ^ Int.toNat 30)]) := e3 _ _ n2d upd_same
  have hz : ∃ z : Int, 0 < z ∧ z ≤ 1000000000000000000000000000000 ∧ atI [V.int 2, V.int 7, V.int (10 ^ Int.toNat 6), V.int (10 ^ Int.toNat 30)] r3 = some (.int z) := by
    have c : r3 = 0 ∨ r3 = 1 ∨ r3 = 2 ∨ r3 = 3 := by omega
    rcases c with rfl | rfl | rfl | rfl
    · exact ⟨2, by decide, by decide, rfl⟩
    · exact ⟨7, by decide, by decide, rfl⟩
    · exact ⟨10 ^ Int.toNat 6, by decide, by decide, rfl⟩
    · exact ⟨10 ^ Int.toNat 30, by decide, by decide, rfl⟩
  obtain ⟨z, z0, z1, ez⟩ := hz
  refine w_ixL (sq_lst l3) ez ?_
  walk_at "rv go"
  have eN : (((1 + r2).toNat : Nat) : Int) = 1 + r2 := Int.toNat_of_nonneg (by omega)
  have b3 : But d H H3 := ((b1.trans e1).trans e2).trans (((But.refl d H2).new n2).trans e3)
  refine w_lcR (n := (1 + r2).toNat) (by omega) (fun AQ q => ?_) (fun D acc H' => ∃ hs : List Int, acc = hs.map V.int ∧ (∀ z ∈ hs, HOk1 z) ∧ But d H H' ∧ DrawsAt H' d c ∧ H' D = some (.lst acc) ∧ D ≠ d ∧ D ≠ c ∧ H D = none) (fun D nD => ?_) ?_ ?_
  · rw [eN] at q
    walk_at "rv go"
    exact q
  · exact ⟨[], rfl, (fun _ h => nomatch h), b3.new nD, D3.new (same_new (Same.refl H3) nD), upd_same, D3.nd nD, D3.nc nD, b3.free (D3.nd nD) nD⟩
  · rintro D acc H' hl ⟨hs, rfl, hok, b, DD, hD', nDd, nDc, nD⟩
    walk_at "rv go"
    refine draw_call DD (by omega) (Int.lt_of_le_of_lt (b := 2000000000000000000000000000001) (by omega) (by decide)) fun r H4 ra rb e4 D4 => ?_
    walk_at "rv go"
    have b4 := b.trans e4
    refine w_app (J := fun D acc H' => ∃ hs : List Int, acc = hs.map V.int ∧ (∀ z ∈ hs, HOk1 z) ∧ But d H H' ∧ DrawsAt H' d c ∧ H' D = some (.lst acc) ∧ D ≠ d ∧ D ≠ c ∧ H D = none) (e4 _ _ nDd hD') (by rw [List.length_map] at hl ⊢; omega) ⟨hs ++ [r - z], (by rw [map_app]), ?_, ?_, D4.wr nDd nDc, upd_same, nDd, nDc, nD⟩
    · intro y hy
      rcases List.mem_append.mp hy with h | h
      · exact hok y h
      · rw [List.mem_singleton.mp h]
        exact ⟨by omega, by omega⟩
    · exact fun c o nc h => by
        have q := b4 c o nc h
        rw [upd_ne (ne_of_none h nD)]
        exact q
  · rintro D acc H' hl ⟨hs, rfl, hok, b, DD, hD', nDd, nDc, nD⟩
    rw [List.length_map] at hl
    exact k D H' hs (by omega) (by omega) hok b DD nD hD'
theorem p_widths {K : PySem.W.Frag} {vs : List V} {H : Hp} {Q : VK} {E : XK} (h : spWidths K vs H Q E) : t__law_widths K { nx := fun _ H' => Q .non H', rt := Q } (start ["_law_draws_here", "_law_many", "_law_size", "_law_k"] vs) H := by
  obtain ⟨d, c, n, rfl, hn, hD, k⟩ := h
  unfold t__law_widths
  walk_at "rv go"
  refine ⟨szl (by decide), fun p1 n1 => ?_⟩
  have n1d : p1 ≠ d := hD.nd n1
  walk_at "rv go"
  refine draw_call (hD.new (same_new (Same.refl H) n1)) (by decide) (by decide) fun r1 H1 r1a r1b e1 D1 => ?_
  walk_at "rv go"
  have b1 : But d H H1 := But.trans ((But.refl d H).new n1) e1
  have l1 : H1 p1 = some (.lst [.int 1, .int 3, .int (10 ^ Int.toNat 30)]) := e1 _ _ n1d upd_same
  have hz : ∃ z : Int, 0 < z ∧ z ≤ 1000000000000000000000000000000 ∧ atI [V.int 1, V.int 3, V.int (10 ^ Int.toNat 30)] r1 = some (.int z) := by
    have c : r1 = 0 ∨ r1 = 1 ∨ r1 = 2 := by omega
    rcases c with rfl | rfl | rfl
    · exact ⟨1, by decide, by decide, rfl⟩
    · exact ⟨3, by decide, by decide, rfl⟩
    · exact ⟨10 ^ Int.toNat 30, by decide, by decide, rfl⟩
  obtain ⟨z, z0, z1, ez⟩ := hz
  refine w_ixL (sq_lst l1) ez ?_
  walk_at "rv go"
  refine w_lcR (n := n) (by omega) (fun AQ q => ?_) (fun D acc H' => ∃ hs : List Int, acc = hs.map V.int ∧ (∀ z ∈ hs, WOk1 z) ∧ But d H H' ∧ DrawsAt H' d c ∧ H' D = some (.lst acc) ∧ D ≠ d ∧ D ≠ c ∧ H D = none) (fun D nD => ?_) ?_ ?_
  · walk_at "rv go"
    exact q
  · exact ⟨[], rfl, (fun _ h => nomatch h), b1.new nD, D1.new (same_new (Same.refl H1) nD), upd_same, D1.nd nD, D1.nc nD, b1.free (D1.nd nD) nD⟩
  · rintro D acc H' hl ⟨hs, rfl, hok, b, DD, hD', nDd, nDc, nD⟩
    walk_at "rv go"
    refine draw_call DD (by omega) (Int.lt_of_le_of_lt (b := 2000000000000000000000000000001) (by omega) (by decide)) fun r H4 ra rb e4 D4 => ?_
    walk_at "rv go"
    have b4 := b.trans e4
    refine w_app (J := fun D acc H' => ∃ hs : List Int, acc = hs.map V.int ∧ (∀ z ∈ hs, WOk1 z) ∧ But d H H' ∧ DrawsAt H' d c ∧ H' D = some (.lst acc) ∧ D ≠ d ∧ D ≠ c ∧ H D = none) (e4 _ _ nDd hD') (by rw [List.length_map] at hl ⊢; omega) ⟨hs ++ [1 + r], (by rw [map_app]), ?_, ?_, D4.wr nDd nDc, upd_same, nDd, nDc, nD⟩
    · intro y hy
      rcases List.mem_append.mp hy with h | h
      · exact hok y h
      · rw [List.mem_singleton.mp h]
        exact ⟨by omega, by omega⟩
    · exact fun c o nc h => by
        have q := b4 c o nc h
        rw [upd_ne (ne_of_none h nD)]
        exact q
  · rintro D acc H' hl ⟨hs, rfl, hok, b, DD, hD', nDd, nDc, nD⟩
    rw [List.length_map] at hl
    exact k D H' hs hl hok b DD nD hD'
theorem ty_same {K : PySem.W.Frag} {H H' : Hp} {v : V} {t : Value} (h : TyX K H v t) (e : Same H H') : TyX K H' v t := by
  cases h with
  | base h =>
    cases h with
    | non => exact .base .non
    | bl x => exact .base (.bl x)
    | int i => exact .base (.int i)
    | str x => exact .base (.str x)
    | flt x => exact .base (.flt x)
    | lst h => exact .base (.lst (e _ _ h))
    | frz h => exact .base (.frz (e _ _ h))
    | tup h => exact .base (.tup (e _ _ h))
    | dK h => exact .base (.dK (e _ _ h))
    | dT h => exact .base (.dT (e _ _ h))
    | ins h cl ha hn htk hm => exact .base (.ins (e _ _ h) cl ha hn htk hm)
  | byt b => exact .byt b
  | set h => exact .set (e _ _ h)
  | kList h c => exact .kList h c
  | kTuple h c => exact .kTuple h c
  | kDict h c => exact .kDict h c
  | fTuple h => exact .fTuple (e _ _ h)
  | fDict h => exact .fDict (e _ _ h)
theorem Whole.same {K : PySem.W.Frag} {H H' : Hp} {v : V} (h : Whole K H v) (e : Same H H') : Whole K H' v := by
  cases h with
  | int i => exact .int i
  | bl b => exact .bl b
  | other h k n => exact .other (ty_same h e) k n
theorem whole_int {K : PySem.W.Frag} {H : Hp} {v : V} (h : Whole K H v) : ∃ t, TyX K H v t ∧ PySem.W.kitOne K t (.type "int") = some (isI v || match v with | .bl _ => true | _ => false) := by
  cases h with
  | int i => exact ⟨_, .base (.int i), kit_ii⟩
  | bl b => exact ⟨_, .base (.bl b), kit_bi⟩
  | other h k n1 =>
    refine ⟨_, h, ?_⟩
    rw [k]
    cases v with
    | int i => exact absurd rfl (n1 i)
    | bl b =>
      cases h with
      | base hb =>
        cases hb
        rw [kit_bi] at k
        cases k
    | _ => rfl
theorem p_whole {K : PySem.W.Frag} {vs : List V} {H : Hp} {Q : VK} {E : XK} (h : spWhole K vs H Q E) : t_is_whole K { nx := fun _ H' => Q .non H', rt := Q } (start ["value"] vs) H := by
  obtain ⟨v, rfl, hw, k⟩ := h
  unfold t_is_whole
  obtain ⟨t, h1, h2⟩ := whole_int hw
  walk_at "rv go"
  refine isi_of (.ty "int") h1 h2 ?_
  walk_at "rv go"
  cases v with
  | int i =>
    refine iteT ?_
    walk_at "rv go"
    refine isi_of (.ty "bool") (.base (.int i)) kit_ib ?_
    walk_at "rv go"
    exact k
  | bl b =>
    refine iteT ?_
    walk_at "rv go"
    refine isi_of (.ty "bool") (.base (.bl b)) kit_bb ?_
    walk_at "rv go"
    exact k
  | _ => exact k
theorem p_within {K : PySem.W.Frag} {vs : List V} {H : Hp} {Q : VK} {E : XK} (h : spWithin K vs H Q E) : t_is_whole_within K { nx := fun _ H' => Q .non H', rt := Q } (start ["value", "least", "greatest"] vs) H := by
  obtain ⟨v, lo, hi, rfl, hw, k⟩ := h
  unfold t_is_whole_within
  walk_at "rv go"
  refine ⟨v, rfl, hw, ?_⟩
  walk_at "rv go"
  cases v with
  | int i =>
    refine iteT ?_
    refine w_chain ?_
    walk_at "rv go"
    refine w_both (fun h => ?_) (fun h => ?_)
    · walk_at "rv go"
      have e : inI lo hi (.int i) = decide (i ≤ hi) := by
        show (decide (lo ≤ i) && decide (i ≤ hi)) = _
        rw [decide_eq_true h, Bool.true_and]
      rw [e] at k
      exact k
    · have e : inI lo hi (.int i) = false := by
        show (decide (lo ≤ i) && decide (i ≤ hi)) = _
        rw [decide_eq_false h, Bool.false_and]
      rw [e] at k
      exact k
  | _ => exact k
theorem sqT_same0 {K : PySem.W.Frag} {H H' : Hp} {a : Addr} {xs : List V} (h : SqT K H a xs) (e : Same H H') : SqT K H' a xs := by
  rcases h with (h | ⟨o, h⟩) | h
  · exact .inl (.inl (e _ _ h))
  · exact .inl (.inr ⟨o, e _ _ h⟩)
  · exact .inr h
theorem p_outside {K : PySem.W.Frag} {vs : List V} {H : Hp} {Q : VK} {E : XK} (h : spOutside K vs H Q E) : t_first_outside K { nx := fun _ H' => Q .non H', rt := Q } (start ["values", "least", "greatest", "index", "value"] vs) H := by
  obtain ⟨a, lo, hi, xs, rfl, hS, hw, k⟩ := h
  unfold t_first_outside
  refine w_seq ?_
  refine w_forEA (fun AQ q => ?_) hS (fun i σ' H' => ∃ u v : Option V, σ' = [some (.ref a), some (.int lo), some (.int hi), u, v] ∧ Same H H' ∧ outs lo hi xs 0 = outs lo hi (xs.drop i) i) ⟨none, none, rfl, Same.refl H, by rw [List.drop_zero]⟩ (fun i σ' H' ⟨_, _, _, e, _⟩ => ⟨fun z => e.seq z, fun z => sqT_same0 z e⟩) ?_ ?_
  · walk_at "rv go"
    exact q
  · rintro i x T σ' H' hx ⟨u, v, rfl, e, ho⟩ nT
    refine ⟨T, _, rfl, sq_tup upd_same, rfl, _, _, rfl, ?_⟩
    refine ⟨_, _, rfl, rfl, ?_⟩
    have e2 : Same H (upd H' T (.tup [.int (i : Int), x])) := same_new e nT
    have hil : i < xs.length := (List.getElem?_eq_some_iff.mp hx).1
    have hxe : xs[i] = x := (List.getElem?_eq_some_iff.mp hx).2
    have ed : xs.drop i = x :: xs.drop (i + 1) := by rw [List.drop_eq_getElem_cons hil, hxe]
    refine w_ifs ?_
    walk_at "rv go"
    refine ⟨x, lo, hi, rfl, ?_, ?_⟩
    · exact (hw x (List.mem_of_getElem? hx)).same e2
    · walk_at "rv go"
      rw [ed] at ho
      cases hb : inI lo hi x with
      | true =>
        refine iteF ?_
        refine w_next ?_
        refine ⟨_, _, rfl, e2, ?_⟩
        rw [ho]
        show (if inI lo hi x = true then _ else _) = _
        rw [if_pos hb]
      | false =>
        refine iteT ?_
        walk_at "rv go"
        have q := k _ e2
        rw [ho] at q
        have e3 : outs lo hi (x :: xs.drop (i + 1)) i = .int (i : Int) := by
          show (if inI lo hi x = true then _ else _) = _
          rw [hb, if_neg Bool.false_ne_true]
        rw [e3] at q
        exact q
  · rintro σ' H' ⟨u, v, rfl, e, ho⟩
    walk_at "rv go"
    rw [List.drop_length] at ho
    have q := k _ e
    rw [ho] at q
    exact q
theorem p_row {K : PySem.W.Frag} {vs : List V} {H : Hp} {Q : VK} {E : XK} (h : spRow K vs H Q E) : t_is_row K { nx := fun _ H' => Q .non H', rt := Q } (start ["values", "least", "most"] vs) H := by
  obtain ⟨a, lo, hi, xs, rfl, hR, k⟩ := h
  unfold t_is_row
  walk_at "rv go"
  refine ⟨szl (by decide), fun p np => ?_⟩
  have e := same_new (o := .tup [.ty "list", .ty "tuple"]) (Same.refl H) np
  walk_at "rv go"
  have hR2 := hR.same (K := K) e
  have ty : ∃ t, TyX K (upd H p (.tup [.ty "list", .ty "tuple"])) (.ref a) t ∧ PySem.W.kitAny K t [.type "list", .type "tuple"] = some true := by
    rcases hR2 with h | h
    · exact ⟨_, .base (.lst h), kitAny_cons kit_ll (fun z => nomatch z) (fun _ => rfl)⟩
    · exact ⟨_, .base (.tup h), kitAny_cons kit_tl (fun _ => kitAny_cons kit_tt (fun z => nomatch z) (fun _ => rfl)) (fun z => nomatch z)⟩
  obtain ⟨t, h1, h2⟩ := ty
  refine ⟨.ref a, p, _, t, _, true, rfl, upd_same, .cons (.ty "list") (.cons (.ty "tuple") .nil), h1, h2, ?_⟩
  walk_at "rv go"
  refine w_chain ?_
  walk_at "rv go"
  have hl : ∀ Q : VK, Q (.int (xs.length : Int)) (upd H p (.tup [.ty "list", .ty "tuple"])) → cLen K [.ref a] (upd H p (.tup [.ty "list", .ty "tuple"])) Q := fun Q q => by
    rcases hR2 with h | h
    · exact w_lenL (sq_lst h) q
    · exact w_lenT (sq_tup h) q
  refine hl _ ?_
  walk_at "rv go"
  have q := k _ e
  refine w_both (fun z => ?_) (fun z => ?_)
  · walk_at "rv go"
    rw [decide_eq_true z, Bool.true_and] at q
    exact q
  · rw [decide_eq_false z, Bool.false_and] at q
    exact q
theorem tup_call {K : PySem.W.Frag} {H : Hp} {Q : VK} {a : Addr} {xs : List V} (h : RowAt K H a xs) (k : ∀ l H', Same H H' → H' l = some (.tup xs) → Q (.ref l) H') : cTuple K [.ref a] H Q := by
  rcases h with h | h
  · exact ⟨a, xs, rfl, .inl ⟨sq_lst h, fun l nl => k l _ (same_new (Same.refl H) nl) upd_same⟩⟩
  · exact ⟨a, xs, rfl, .inr ⟨sq_tup h, k a H (Same.refl H) h⟩⟩
theorem w_lenR {K : PySem.W.Frag} {H : Hp} {Q : VK} {a : Addr} {xs : List V} (h : RowAt K H a xs) (q : Q (.int xs.length) H) : cLen K [.ref a] H Q :=
  h.elim (fun h => w_lenL (sq_lst h) q) fun h => w_lenT (sq_tup h) q
theorem dp_ints {K : PySem.W.Frag} {H : Hp} : ∀ zs : List Int, DpAll K H (zs.map V.int) (zs.map PyData.int)
  | [] => .nil
  | z :: r => .cons (.int z) (dp_ints r)
theorem lay_ints : ∀ zs : List Int, PyData.canLayAll0 (zs.map PyData.int) = true ∧ PyData.depthAll (zs.map PyData.int) = 0
  | [] => ⟨by simp [PyData.canLayAll0], by simp [PyData.depthAll]⟩
  | z :: r => by
    have h := lay_ints r
    exact ⟨by simp [PyData.canLayAll0, PyData.canLay0, h.1], by simp [PyData.depthAll, PyData.depth, h.2]⟩
end Rv
/-! Operators, comparisons and len of instances of a class with its own defs for them. -/
namespace Rv
open PySem PySem.Spec PyProof.Rows L2
end Rv
namespace Rv
open PySem PySem.Spec PyProof.Rows L2
def Sz (k : Nat) (z : Int) : Prop := z.natAbs < 2 ^ k
theorem Sz.mono {j k : Nat} {z : Int} (h : Sz j z) (e : j ≤ k) : Sz k z := Nat.lt_of_lt_of_le h (Nat.pow_le_pow_right (by decide) e)
/-! fractions in the heap -/
theorem RatAt.same {C : Addr} {H H' : Hp} {p : Addr} {t b : Int} (h : RatAt C H p t b) (e : Same H H') : RatAt C H' p t b := by
  obtain ⟨l, dx, h1⟩ := h
  exact ⟨l, dx, e _ _ h1⟩
/-- a number: an int or a Ratio -/
def Num (C : Addr) (H : Hp) (v : V) (n d : Int) : Prop := (v = .int n ∧ d = 1) ∨ ∃ p, v = .ref p ∧ RatAt C H p n d
theorem Num.same {C : Addr} {H H' : Hp} {v : V} {n d : Int} (h : Num C H v n d) (e : Same H H') : Num C H' v n d := by
  rcases h with h | ⟨p, h1, h2⟩
  · exact .inl h
  · exact .inr ⟨p, h1, h2.same e⟩
def hN (hs : List Int) (i : Nat) : Int := (hs[i]?).getD 0
local macro_rules | `(tactic| walk_at "rv st") => `(tactic| first
  | with_reducible refine iteT ?_ | with_reducible refine iteF ?_ | with_reducible refine w_nx ?_ | with_reducible refine w_yes ?_ | with_reducible refine w_rt ?_ | with_reducible refine iteNT ?_ | with_reducible refine iteNF ?_ | with_reducible refine iteNRf ?_ | with_reducible refine iteRf ?_ | with_reducible refine w_seqA ?_ | with_reducible refine w_seqD ?_ | with_reducible refine w_seqP ?_ | with_reducible refine w_asg ?_ | with_reducible refine w_ret ?_ | with_reducible refine w_drop ?_ | with_reducible refine w_ifs ?_ | with_reducible refine w_next ?_ | with_reducible refine w_par ?_
  | with_reducible refine w_op ?_ | with_reducible refine w_un ?_ | ((with_reducible show tVar _ _ _ _); refine' w_var ?hv ?_; (case hv => exact rfl)) | with_reducible refine w_c ?_ | with_reducible refine w_test ?_ | with_reducible refine w_tB ?_
  | with_reducible refine w_bl ?_ | with_reducible refine w_I0 ?_ | with_reducible refine w_U ?_ | with_reducible refine w_eqI ?_ | with_reducible refine w_neI ?_
  | with_reducible refine w_cons ?_ | with_reducible refine w_nil ?_ | with_reducible refine w_gn ?_ | with_reducible refine w_gsub ?_ | with_reducible refine w_and ?_ | with_reducible refine w_or ?_ | with_reducible refine w_not ?_
  | with_reducible refine w_andV ?_ | with_reducible refine w_orV ?_ | with_reducible refine w_notV ?_ | with_reducible refine w_if ?_ | with_reducible refine w_cb ?_ | with_reducible refine w_call ?_ | with_reducible refine w_lst ?_ | with_reducible refine w_tup ?_
  | with_reducible refine w_sl ?_ | with_reducible refine w_noPart ?_ | with_reducible refine w_part ?_ | with_reducible refine w_ex1 ?_ | with_reducible refine w_exb ?_ | with_reducible refine w_intB ?_ | with_reducible refine w_intI ?_ | with_reducible refine w_abs ?_)
local macro_rules | `(tactic| walk_at "rv ix") => `(tactic| ((with_reducible show rIxL _ _ _ _ _); refine' w_ixL (sq_lst ?ha) ?hb ?_; (case ha => first | exact upd_same | assumption); (case hb => first | exact rfl | assumption)))
local macro_rules | `(tactic| walk_at "rv ar") => `(tactic| first
  | (refine' w_I ?hc ?_; (case hc => first | (show (0 : Int) < _; first | assumption | decide | omega) | exact pow_c (by decide) (by decide) (by first | decide | omega) (by first | decide | omega) | exact mul_r (by first | decide | omega) (by first | decide | omega) | exact mul_l (by first | decide | omega) (by first | decide | omega) | exact divw (by first | assumption | decide | omega) (by first | assumption | decide | omega))))
local macro_rules | `(tactic| walk_at "rv go") => `(tactic| repeat first | walk_at "rv st" | walk_at "rv ix" | ((with_reducible show rI _ _ _ _ _ _); walk_at "rv ar"))
end Rv
/-! The head's tests of the classes Profile and Ratio. -/
namespace Rv
open PySem PySem.Spec PyProof.Rows L2
theorem pcls_of {K : PySem.W.Frag} (k : Cls K (He.ga K "Profile")) (nH : NoAttr K (He.ga K "Profile") "column_heights") (nW : NoAttr K (He.ga K "Profile") "column_widths") (h : clB K "Profile" = true) : PCls K (He.ga K "Profile") := by
  obtain ⟨h1, h⟩ := He.ba h
  obtain ⟨h2, h⟩ := He.ba h
  obtain ⟨h3, h4⟩ := He.ba h
  exact ⟨k, nH, nW, He.eqO_ok h1, He.eqO_ok h2, of_decide_eq_true h3, of_decide_eq_true h4⟩
end Rv
namespace Rv
open PySem PySem.Spec PyProof.Rows L2
local macro_rules | `(tactic| walk_at "rv st") => `(tactic| first
  | with_reducible refine iteT ?_ | with_reducible refine iteF ?_ | with_reducible refine w_nx ?_ | with_reducible refine w_yes ?_ | with_reducible refine w_rt ?_ | with_reducible refine iteNT ?_ | with_reducible refine iteNF ?_ | with_reducible refine iteNRf ?_ | with_reducible refine iteRf ?_ | with_reducible refine w_seqA ?_ | with_reducible refine w_seqD ?_ | with_reducible refine w_seqP ?_ | with_reducible refine w_asg ?_ | with_reducible refine w_ret ?_ | with_reducible refine w_drop ?_ | with_reducible refine w_ifs ?_ | with_reducible refine w_next ?_ | with_reducible refine w_par ?_
  | with_reducible refine w_op ?_ | with_reducible refine w_un ?_ | ((with_reducible show tVar _ _ _ _); refine' w_var ?hv ?_; (case hv => exact rfl)) | with_reducible refine w_c ?_ | with_reducible refine w_test ?_ | with_reducible refine w_tB ?_
  | with_reducible refine w_bl ?_ | with_reducible refine w_I0 ?_ | with_reducible refine w_U ?_ | with_reducible refine w_eqI ?_ | with_reducible refine w_neI ?_
  | with_reducible refine w_cons ?_ | with_reducible refine w_nil ?_ | with_reducible refine w_gn ?_ | with_reducible refine w_gsub ?_ | with_reducible refine w_and ?_ | with_reducible refine w_or ?_ | with_reducible refine w_not ?_
  | with_reducible refine w_andV ?_ | with_reducible refine w_orV ?_ | with_reducible refine w_notV ?_ | with_reducible refine w_if ?_ | with_reducible refine w_cb ?_ | with_reducible refine w_call ?_ | with_reducible refine w_lst ?_ | with_reducible refine w_tup ?_
  | with_reducible refine w_sl ?_ | with_reducible refine w_noPart ?_ | with_reducible refine w_part ?_ | with_reducible refine w_ex1 ?_ | with_reducible refine w_exb ?_ | with_reducible refine w_intB ?_ | with_reducible refine w_intI ?_ | with_reducible refine w_abs ?_)
local macro_rules | `(tactic| walk_at "rv ix") => `(tactic| ((with_reducible show rIxL _ _ _ _ _); refine' w_ixL (sq_lst ?ha) ?hb ?_; (case ha => first | exact upd_same | assumption); (case hb => first | exact rfl | assumption)))
local macro_rules | `(tactic| walk_at "rv ar") => `(tactic| first
  | (refine' w_I ?hc ?_; (case hc => first | (show (0 : Int) < _; first | assumption | decide | omega) | exact pow_c (by decide) (by decide) (by first | decide | omega) (by first | decide | omega) | exact mul_r (by first | decide | omega) (by first | decide | omega) | exact mul_l (by first | decide | omega) (by first | decide | omega) | exact divw (by first | assumption | decide | omega) (by first | assumption | decide | omega))))
local macro_rules | `(tactic| walk_at "rv go") => `(tactic| repeat first | walk_at "rv st" | walk_at "rv ix" | ((with_reducible show rI _ _ _ _ _ _); walk_at "rv ar"))
end Rv
namespace Rv
open PySem PySem.Spec PyProof.Rows L2
local macro_rules | `(tactic| walk_at "rv st") => `(tactic| first
  | with_reducible refine iteT ?_ | with_reducible refine iteF ?_ | with_reducible refine w_nx ?_ | with_reducible refine w_yes ?_ | with_reducible refine w_rt ?_ | with_reducible refine iteNT ?_ | with_reducible refine iteNF ?_ | with_reducible refine iteNRf ?_ | with_reducible refine iteRf ?_ | with_reducible refine w_seqA ?_ | with_reducible refine w_seqD ?_ | with_reducible refine w_seqP ?_ | with_reducible refine w_asg ?_ | with_reducible refine w_ret ?_ | with_reducible refine w_drop ?_ | with_reducible refine w_ifs ?_ | with_reducible refine w_next ?_ | with_reducible refine w_par ?_
  | with_reducible refine w_op ?_ | with_reducible refine w_un ?_ | ((with_reducible show tVar _ _ _ _); refine' w_var ?hv ?_; (case hv => exact rfl)) | with_reducible refine w_c ?_ | with_reducible refine w_test ?_ | with_reducible refine w_tB ?_
  | with_reducible refine w_bl ?_ | with_reducible refine w_I0 ?_ | with_reducible refine w_U ?_ | with_reducible refine w_eqI ?_ | with_reducible refine w_neI ?_
  | with_reducible refine w_cons ?_ | with_reducible refine w_nil ?_ | with_reducible refine w_gn ?_ | with_reducible refine w_gsub ?_ | with_reducible refine w_and ?_ | with_reducible refine w_or ?_ | with_reducible refine w_not ?_
  | with_reducible refine w_andV ?_ | with_reducible refine w_orV ?_ | with_reducible refine w_notV ?_ | with_reducible refine w_if ?_ | with_reducible refine w_cb ?_ | with_reducible refine w_call ?_ | with_reducible refine w_lst ?_ | with_reducible refine w_tup ?_
  | with_reducible refine w_sl ?_ | with_reducible refine w_noPart ?_ | with_reducible refine w_part ?_ | with_reducible refine w_ex1 ?_ | with_reducible refine w_exb ?_ | with_reducible refine w_intB ?_ | with_reducible refine w_intI ?_ | with_reducible refine w_abs ?_)
local macro_rules | `(tactic| walk_at "rv ix") => `(tactic| ((with_reducible show rIxL _ _ _ _ _); refine' w_ixL (sq_lst ?ha) ?hb ?_; (case ha => first | exact upd_same | assumption); (case hb => first | exact rfl | assumption)))
local macro_rules | `(tactic| walk_at "rv ar") => `(tactic| first
  | (refine' w_I ?hc ?_; (case hc => first | (show (0 : Int) < _; first | assumption | decide | omega) | exact pow_c (by decide) (by decide) (by first | decide | omega) (by first | decide | omega) | exact mul_r (by first | decide | omega) (by first | decide | omega) | exact mul_l (by first | decide | omega) (by first | decide | omega) | exact divw (by first | assumption | decide | omega) (by first | assumption | decide | omega))))
local macro_rules | `(tactic| walk_at "rv go") => `(tactic| repeat first | walk_at "rv st" | walk_at "rv ix" | ((with_reducible show rI _ _ _ _ _ _); walk_at "rv ar"))
end Rv
/-! Calls by keywords alone. -/
namespace Rv
open PySem PySem.Spec PyProof.Rows L2
end Rv
/-! Defs that are run where no guard is under way: what repr of lists and tuples asks. -/
namespace Rv
open PySem PySem.Spec PyProof.Rows L2
/-- a def's promise, told of callers without guards alone -/
structure FnOkG (P : Program) (w : World) (K : PySem.W.Frag) (mg : Str → Option Value) (base : Heap) (CX : CXT) (k : Nat) (f : Addr) (fd : FuncData) (ps : List Str) (sp : Sp) : Prop where
  len : ∀ vs H Q E, sp vs H Q E → vs.length = ps.length
  run : ∀ (A : Around) (outer : List Env) (s : Shared) (H : Hp) (args : Args) (us : List Value) (vs : List V) (Q : VK) (E : XK), A.guards = some [] → Room k A → Env0 P w K mg base A outer s H → BindsTo s fd args (ps.zip us) → Vals vs us → sp vs H Q E →
    codeAny (model P w) A (.call (.ref f) args) (CR CX outer P w H s Q E) s
section
variable {P : Program} {w : World} {K : PySem.W.Frag} {mg : Str → Option Value} {base : Heap} {CX : CXT} {k : Nat} {f : Addr} {fd : FuncData} {N ps : List Str} {sp : Sp} {x qual : Str} {params : Arguments} {body : List Stmt} {scope : Scope} {dvs : List V} {kws : List (Str × V)}
theorem FnOk.g (F : FnOk P w K mg base CX k f fd ps sp) : FnOkG P w K mg base CX k f fd ps sp := ⟨F.len, fun A outer s H args us vs Q E _ => F.run A outer s H args us vs Q E⟩
theorem guards_deeper {A : Around} {env : Env} (h : A.guards = some []) : (A.deeper env).guards = some [] := h
theorem FunD.okG (F : FunD K x qual params body scope dvs kws f fd) (S : FnScope N ps scope) (len : ∀ vs H Q E, sp vs H Q E → vs.length = ps.length)
    (hbody : ∀ (cdv : Value) (A : Around) (outer : List Env) (s : Shared) (H : Hp) (vs : List V) (Q : VK) (E : XK), (A.deeper (envOfC qual scope s.heap.objs.size f cdv)).guards = some [] → Room k (A.deeper (envOfC qual scope s.heap.objs.size f cdv)) → sp vs H Q E →
      ∃ t, PSs (cxOf CX P w K mg base N qual scope f cdv A outer s H E) body t ∧ t { nx := fun _ H' => Q .non H', rt := Q } (start N vs) H) : FnOkG P w K mg base CX (k + 1) f fd ps sp := by
  obtain ⟨oc, od, dV, kV, doc, pm, an, cdv, ct, osl, rfl, lk, hcd, _, _⟩ := F.ex
  refine ⟨len, fun A outer s H args us vs Q E hg hr e0 hb r hsp => ?_⟩
  have hl := len _ _ _ _ hsp
  have KX : K.In s.heap := e0.mod.kin.keeps fun b o e => (e0.bs b o e).1
  have lim : s.heap.NoLimit := e0.mod.nolimit.keeps fun b o e => (e0.bs b o e).1
  have hkind : ∀ y ∈ ps.zip us, scope.names.lookup y.1 = some .local ∨ (scope.names.lookup y.1 = some .cell ∧ ((cellsFrom (s.heap.objs.size + 1) scope.names []).lookup y.1).isSome = true) := by
    rintro ⟨n, v⟩ hy
    rcases S.par n (List.of_mem_zip hy).1 with q | q
    · exact .inl q
    · exact .inr ⟨q, PySem.W.cellsFrom_some _ _ _ (.inl q)⟩
  refine codeAny_call_function hr.depth (KX _ _ lk) rfl S.co S.gen rfl (PySem.W.codeRec_of KX hcd) (hb _ _ _ _ (wpAny_newFunctionEnv_cells S.kind hkind fun env he s1 x1 => ?_))
  subst he
  refine ⟨lim.keeps x1.toInCall.keep, codeAny_func ?_⟩
  obtain ⟨t, ht, hq⟩ := hbody cdv A outer s H vs Q E (guards_deeper hg) (hr.deeper _) hsp
  have I : Inv (cxOf CX P w K mg base N qual scope f cdv A outer s H E) [] (start N vs) H s1 := inv_start S hr.hd e0 hl r x1
  refine wpAny_mono (ht.run [] s1 (start N vs) H _ I hq) (fun fl s' hs => ?_) fun e s' hs => hs
  cases fl with
  | ret u =>
    obtain ⟨v, σ', H', J, rv, q⟩ := hs
    exact ⟨v, H', J.os, J.bare, J.base, J.hok, rv, q⟩
  | next =>
    obtain ⟨σ', H', J, q⟩ := hs
    exact ⟨.non, H', J.os, J.bare, J.base, J.hok, rfl, q⟩
  | brk =>
    obtain ⟨_, _, _, q⟩ := hs
    exact q.elim
  | cont =>
    obtain ⟨_, _, _, q⟩ := hs
    exact q.elim
end
/-- the law is called where nothing is under way -/
theorem law_callG {P : Program} {w : World} {K : PySem.W.Frag} {mg mb : Str → Option Value} {CX : CXT} {k : Nat} {fa a : Addr} {fd : FuncData} {x : Str} {sp : Sp} {s₁ : Shared} {vs : List Value} {ns : List Int}
    (KX : K.In s₁.heap) (hns : s₁.heap.Ns mainGlobals mg) (hb : s₁.heap.Ns builtinsNs mb) (hbb : ∀ x : Str, x ≠ "__name__" → mb x = bootBuiltins x) (hlim : s₁.heap.NoLimit) (hg : s₁.gens = #[])
    (ha : s₁.heap.get? a = some { cls := .type "list", data := .seq vs.toArray }) (hi : IntsAre vs ns) (hl : ns.length ≤ sizeLine) (hr : Room k callerA)
    (F : ∀ base : Heap, K.In base → base.Ns mainGlobals mg → FnOkG P w K mg base CX k fa fd [x] sp) (hbind : ∀ (s : Shared) (u : Value), BindsTo s fd ⟨[u], []⟩ [(x, u)])
    (hsp : ∀ H : Hp, Only H → SqL K H a (ns.map V.int) → sp [.ref a] H (fun v _ => v = .bl true) fun _ _ _ => False)
    (hCX : ∀ H e s', CX [] H s₁ (fun _ _ _ => False) e s' → False) :
    codeAny (model P w) callerA (.call (.ref fa) ⟨[.ref a], []⟩) (fun r s' => r = .ok (.ret (.bool true)) ∧ OldK s₁.heap s'.heap ∧ s'.os = s₁.os ∧ AllBare s'.gens) s₁ := by
  have rv := vals_ints hi
  have lenV := hi.length
  have core : ∀ H : Hp, Only H → SqL K H a (ns.map V.int) → HOk P w H s₁.heap → (∀ b, H b ≠ none → b = a) → (H a ≠ none → K.lookup a = none) →
      codeAny (model P w) callerA (.call (.ref fa) ⟨[.ref a], []⟩) (fun r s' => r = .ok (.ret (.bool true)) ∧ OldK s₁.heap s'.heap ∧ s'.os = s₁.os ∧ AllBare s'.gens) s₁ := by
    intro H hO hS hok hA hK
    have base_of : ∀ {b : Addr} {o : Obj}, s₁.heap.get? b = some o → H b = none → (hidT s₁.heap H).get? b = some o := fun e n => hidT_get e n
    have noA : ∀ {b : Addr} {o : Obj} {es : Array DictEntry} {ep : Nat}, s₁.heap.get? b = some o → o.data = .dict es ep → H b = none := by
      intro b o es ep e d
      cases q : H b with
      | none => rfl
      | some u =>
        have e' : b = a := hA b (by rw [q]; simp)
        subst e'
        rw [ha] at e
        cases e
        have d' : Data.seq vs.toArray _ = Data.dict es ep := d
        cases d'
    have nsK : ∀ {b : Addr} {m : Str → Option Value}, s₁.heap.Ns b m → (hidT s₁.heap H).Ns b m := fun {b m} ⟨o, es, ep, e, d, r⟩ => ⟨o, es, ep, base_of e (noA e d), d, r⟩
    have hKb : K.In (hidT s₁.heap H) := fun b o e => base_of (KX b o e) (by
      cases q : H b with
      | none => rfl
      | some u =>
        have e' : b = a := hA b (by rw [q]; simp)
        subst e'
        rw [hK (by rw [q]; simp)] at e
        cases e)
    obtain ⟨mc, l1, l2⟩ := hlim
    have hM : Mod K mg (hidT s₁.heap H) := ⟨hKb, nsK hns, ⟨mb, nsK hb, hbb⟩, ⟨mc, nsK l1, l2⟩⟩
    have e0 : Env0 P w K mg (hidT s₁.heap H) callerA [] s₁ H := ⟨rfl, hM, fun b o e => of_hidT e, Nat.le_of_eq (hidT_size _ _), trivial, fun b hb => absurd (show b ∈ ([] : List Addr) from hb) (by simp), hok, .of_eq hg⟩
    refine codeAny_mono ((F _ hKb (nsK hns)).run callerA [] s₁ H ⟨[.ref a], []⟩ [.ref a] [.ref a] _ _ rfl hr e0 (hbind s₁ (.ref a)) (.cons rfl .nil) (hsp H hO hS)) fun r s' h => ?_
    cases r with
    | error e => exact (hCX H e s' h).elim
    | ok fl =>
      cases fl with
      | next => exact h.elim
      | brk => exact h.elim
      | cont => exact h.elim
      | ret u =>
        obtain ⟨v, H', os, bare, un, hok', r', q⟩ := h
        have q' : v = .bl true := q
        subst q'
        obtain rfl : u = Value.bool true := r'
        refine ⟨rfl, OldK.of_keep fun b o e => ?_, os, bare⟩
        cases q : H b with
        | none => exact un.keep b o e q (by intro z; exact absurd (show b ∈ ([] : List Addr) from z) (by simp)) (by simp)
        | some u =>
          rcases hO b with z | ⟨ob, xs, z⟩
          · rw [q] at z
            cases z
          · have z2 := un.frzs b ob _ z
            obtain ⟨e1, _⟩ := hok b _ z
            obtain ⟨e2, _⟩ := hok' b _ z2
            rw [e] at e1
            cases e1
            exact e2
  cases hk : K.lookup a with
  | some o =>
    have e := KX a o hk
    rw [ha] at e
    cases e
    refine core (fun _ => none) (fun _ => .inl rfl) (.inr ⟨_, vs.toArray, _, hk, rfl, rfl, rfl, by rw [List.size_toArray, lenV]; exact hl, by simpa using rv⟩) (fun b u z => by
      have z' : (none : Option HO) = some u := z
      cases z') (fun b z => absurd rfl z) fun z => absurd rfl z
  | none =>
    refine core (fun b => if b = a then some (.frz { cls := .type "list", data := .seq vs.toArray } (.lst (ns.map V.int))) else none) (fun b => ?_) (.inl (.inr ⟨{ cls := .type "list", data := .seq vs.toArray }, if_pos rfl⟩)) (fun b u z => ?_) (fun b z => ?_) fun _ => hk
    · by_cases hb : b = a
      · exact .inr ⟨_, _, if_pos hb⟩
      · exact .inl (if_neg hb)
    · by_cases hb : b = a
      · have z' := (if_pos hb).symm.trans z
        cases z'
        subst hb
        exact ⟨ha, by rw [List.length_map]; exact hl, vs, _, rv, ha⟩
      · have z' := (if_neg hb).symm.trans z
        cases z'
    · by_cases hb : b = a
      · exact hb
      · exact absurd (if_neg hb) z
theorem walk_ofG {l : PySem.W.OpenLaw} {n k : Nat} {q : Program} {loose : List Str} {XP : (Str → Option Value) → Heap → Prop} {YP : World → Heap → Prop} {d : DefRec} {CX : CXT} {x : Str}
    (hn : l.most = some n) (hn2 : n ≤ sizeLine) (hdf : d.params.defaults = []) (hr : Room k callerA)
    (F : ∀ (w : World) (mg : Str → Option Value) (fa : Addr) (h : Heap), YP w h → h.Ns mainGlobals mg → mg d.name = some (.ref fa) →
      ∃ (K : PySem.W.Frag) (fd : FuncData) (sp : Sp), K.In h ∧ (∀ (s : Shared) (u : Value), BindsTo s fd ⟨[u], []⟩ [(x, u)]) ∧
        (∀ (H : Hp) (a : Addr) (ns : List Int), ns.length ≤ n → Only H → SqL K H a (ns.map V.int) → sp [.ref a] H (fun v _ => v = .bl true) fun _ _ _ => False) ∧
        ∀ base : Heap, K.In base → base.Ns mainGlobals mg → FnOkG l.prog w K mg base CX k fa fd [x] sp)
    (hCX : ∀ (H : Hp) (s : Shared) (e : Value) (s' : Shared), CX [] H s (fun _ _ _ => False) e s' → False) :
    PySem.W.WalkO q loose XP YP l.row.toRowW d [] (fun f vs => PySem.call f vs) := by
  refine Att.attach_call hn hdf fun w s₀ s₁ mg mb fa o pm cd doc a vs ns G Y ho hd hcd hmg hobj hints hlen hg => ?_
  obtain ⟨K, fd, sp, KX, hb, hsp, hF⟩ := F w mg fa _ Y G.T.g hmg
  exact law_callG KX G.T.g G.T.b G.T.builtins G.T.nolimit hg hobj hints (Nat.le_trans hlen hn2) hr hF hb (fun H hO hS => hsp H a ns hlen hO hS) fun H e s' => hCX H s₁ e s'
end Rv
/-! Texts of lists of ints, and of own instances whose def makes a text. -/
namespace Rv
open PySem PySem.Spec PyProof.Rows L2
theorem sizeLine_big : 200000 ≤ sizeLine := by decide
end Rv
/-! t[::-1] of a tuple. -/
namespace Rv
open PySem PySem.Spec PyProof.Rows L2
end Rv
/-! Comparisons of an int with an instance of an own class: the int declines, the class's own def answers; own comparisons with values of any kind. -/
namespace Rv
open PySem PySem.Spec PyProof.Rows L2
end Rv
/-! Own comparisons with values of any kind, in both orders. -/
namespace Rv
open PySem PySem.Spec PyProof.Rows L2
/-! lowest terms -/
end Rv
/-! != of instances with an own == and no own !=; + of two own instances. -/
namespace PySem.W
open PySem PySem.Spec PyProof.Rows
end PySem.W
namespace Rv
open PySem PySem.Spec PyProof.Rows L2
end Rv
/-! Base.__init__(self, ..) where Base is an own class under ValueError that has no __init__ of its own. -/
namespace Rv
open PySem PySem.Spec PyProof.Rows L2
end Rv
/-! Own exceptions under any base of the standard ones: fields set in __init__. -/
namespace Rv
open PySem PySem.W PySem.Calls PyProof.Rows PySem.HandSPX Builtin Builtin.ObjectAttr
section
variable {prog : Program} {w : World} {A : Around} {R : Result → Shared → Prop} {hp : Heap} {g : Array GenState} {dr : Drawn} {t : Nat} {os : OsState}
variable {K : W.Frag} {nm : Str} {tk : Tok} {v : Value} {x C : Addr} {fv : Array Value} {cd : ClassData}
/-- an mro by which a store passes -/
structure Mok (m : List Value) : Prop where
  ps : ∀ self, refuseLoop self "__setattr__" m = pure ()
  ne : m.isEmpty = false
  ob : m.contains (.type "object") = true
theorem set_first (X : K.In hp) (gx : hp.get? x = some { cls := .ref C, data := .fields fv }) (gc : W.clsIn K C = some cd) (m : Mok cd.mro) (gd : cd.hasDict = true) (ga : W.findIn K (.ref C) nm = some none)
    (q : ∀ h2 u dx, (∀ b o, b ≠ x → hp.get? b = some o → h2.get? b = some o) → hp.objs.size ≤ dx → dx ≠ x → h2.get? x = some { cls := .ref C, dict := some dx, data := .fields fv } →
      h2.Ns1 dx (fun y => if y = nm then some v else none) → R (.ok (.ret .none)) ⟨h2, g, dr, u, os⟩) :
    codeAny (model prog w) A (.call (.builtin "object.__setattr__") ⟨[.ref x, .str nm tk, v], []⟩) R ⟨hp, g, dr, t, os⟩ := by
  have J : W.InstAt hp x { cls := .ref C, data := .fields fv } C none := ⟨gx, rfl, rfl, trivial⟩
  have S := F.store_object
  have n0 : x ≠ hp.objs.size := Nat.ne_of_lt (Heap.lt_size gx)
  have inO : W.Looks (model prog w) hp (isInstance (.ref x) (.type "object")) true := J.type.andThen (W.looks_mroIn X (by
    unfold W.mroIn
    rw [gc, Option.bind_some, if_neg (by rw [m.ne]; decide), m.ob]))
  refine codeAny_call_builtin S.slot.plain S.entry (@W.check_slot (model prog w) _ _ ⟨hp, g, dr, t, os⟩ "object.__setattr__" "object" "__setattr__" (.ref x) [.str nm tk, v] [] _ S.kind S.split inO (S.args (.ref x) (.str nm tk) v) ?_)
  have mr : W.Looks (model prog w) hp (mroOf (.ref C)) cd.mro := (W.looks_clsIn X gc).andThen .now
  have tn : W.Looks (model prog w) hp (storeTaker? none) none := .now
  have ck : W.Looks (model prog w) hp (classData C) cd := W.looks_clsIn X gc
  rw [W.osa_eq, refuse_eq]
  refine wpAny_bind (wpAny_bind (J.type.at (wpAny_bind (mr.at ?_))))
  rw [m.ps]
  refine wpAny_pure (wpAny_bind (J.type.at (wpAny_bind ((W.looks_findIn X ga).at (wpAny_bind (tn.at ?_))))))
  show wpAny _ _ (storeInOwnDict (.ref x) (.ref C) (.str nm tk) nm v false) _ _ _
  obtain ⟨z1, z2, z3, z4, z5, z6, z7, z8, z9, z10, z11⟩ := cd
  dsimp only at gd
  subst gd
  unfold storeInOwnDict ownDictForStores
  repeat (first | with_reducible refine HandSPX.store_in_new ?_ ?_ | with_reducible refine wpAny_loadPart_at gx ?_ | with_reducible refine ck.at ?_ | wp_step)
  · exact ⟨_, #[], _, (Heap.get?_update_ne _ _ _ _ n0.symm).trans (Heap.get?_push_at rfl rfl), rfl, fun e he => absurd he (by simp), fun _ => rfl⟩
  · intro h2 u hn hs
    have gx1 : (hp.push { cls := .type "dict", data := .dict #[] }).get? x = some { cls := .ref C, data := .fields fv } := Heap.get?_push_of_some _ gx
    refine q h2 u hp.objs.size (fun b o hb ho => ?_) (Nat.le_refl _) n0.symm ?_ hn
    · have w1 := Heap.get?_push_of_some { cls := .type "dict", data := .dict #[] } ho
      exact ((hs.2 b (Nat.ne_of_lt (Heap.lt_size ho))).trans (Heap.get?_update_ne _ _ _ _ hb)).trans w1
    · exact (hs.2 x n0).trans (Heap.get?_update_self _ gx1 rfl)
end
end Rv
namespace Rv
open PySem PySem.Spec PyProof.Rows L2
/-- an own exception class, directly or not under the standard class B -/
structure OexG (K : PySem.W.Frag) (C : Addr) (B newId initId : String) (bmB : List Value) : Prop where
  bf : ExcBaseFacts B newId initId bmB
  cls : ∃ nm q N bs bm sn sub ab col dd k0 k1 k2 k3 k5, K.lookup C = some (excClassObj nm q C N bs bm true sn sub ab col dd k0 k1 k2 k3 k5 newId) ∧ (∀ Y : String, bm.contains (.type Y) = bmB.contains (.type Y)) ∧ Mok (.ref C :: bm)
  sa : PySem.W.findIn K (.ref C) "__setattr__" = some (some (.builtin "object.__setattr__"))
  exC : PySem.W.subIn K (.ref C) (.type "BaseException") = some true
  tyC : PySem.W.typeIn K (.ref C) = some (.type "type")
  kC : PySem.W.keepIn K (.ref C) = true
/-- B.__init__(self, ..) in such a class: nothing of it is told -/
theorem base_init {X : Cx} {pins : List (Addr × Obj)} {σ : L2.St} {H : Hp} {s : Shared} {a C : Addr} {A : Around} {E : Value → Shared → Prop} {B newId initId : String} {bmB : List Value} {us : List Value} {Q : Value → Shared → Prop} (T : OexG X.K C B newId initId bmB) (I : Inv X pins σ H s)
    (e : H a = some (exo a C none)) (hl : us.length ≤ sizeLine) (h : ∀ s2, Inv X pins σ H s2 → Q .none s2) : wpAny (model X.prog X.w) A (call (.builtin initId) (.ref a :: us)) Q E s := by
  obtain ⟨nm, q, N, bs, bm, sn, sub, ab, col, dd, k0, k1, k2, k3, k5, lk, hT, _⟩ := T.cls
  obtain ⟨ta0, ho⟩ := exo_at I.hok e
  obtain ⟨hp, g, d, t, os⟩ := s
  refine wpAny_call (PySem.HandSPX.init_base T.bf hT (I.kIn _ _ lk) ho hl fun h2 t2 kk hx => ?_)
  have J := I.write (t' := t) (x := a) (e := a) (o := exo a C none) (by rw [e]; exact True.intro) (.inl rfl) kk ⟨_, hx⟩ (exo_ok hx)
  have same : upd H a (exo a C none) = H := by
    funext b
    by_cases z : b = a
    · rw [z, upd_same, e]
    · rw [upd_ne z]
  rw [same] at J
  exact h _ J
theorem mok_ref {C : Addr} {m : List Value} (h : Mok m) : Mok (.ref C :: m) := ⟨fun self => by rw [refuseLoop_ref]; exact h.ps self, rfl, by rw [List.contains_cons, h.ob, Bool.or_true]⟩
theorem mok_ve : Mok [.type "ValueError", .type "Exception", .type "BaseException", .type "object"] := ⟨fun self => F.store_ValueError.passes self, rfl, by decide +kernel⟩
section
variable {X : Cx} {pins : List (Addr × Obj)} {σ : L2.St} {H : Hp} {s : Shared} {a C : Addr} {f : Str} {y : V} {u : Value} {Q : Unit → Shared → Prop} {E : Value → Shared → Prop} {A : Around} {B newId initId : String} {bmB : List Value}
/-- self.f = y, the first field -/
theorem first_field (T : OexG X.K C B newId initId bmB) (I : Inv X pins σ H s) (e : H a = some (exo a C none)) (no : PySem.W.findIn X.K (.ref C) f = some none) (ry : RelV y u)
    (h : ∀ dx s2, H dx = none → dx ≠ a → Inv X pins σ (upd (upd H dx (exd dx [(f, y)])) a (exo a C (some dx))) s2 → Q () s2) : wpAny (model X.prog X.w) A (setAttr (.ref a) f u) Q E s := by
  obtain ⟨nm, q, N, bs, bm, sn, sub, ab, col, dd, k0, k1, k2, k3, k5, lk, _, mk⟩ := T.cls
  have ci : PySem.W.clsIn X.K C = some { name := nm, bases := bs, mro := .ref C :: bm, ns := N, qualname := q, hasDict := true, slotNames := sn, subclasses := sub, abstract := ab, collection := col, hasDel := false } := by
    unfold PySem.W.clsIn
    rw [lk] <;> rfl
  obtain ⟨ta0, ho⟩ := exo_at I.hok e
  obtain ⟨hp, g, d, t, os⟩ := s
  refine PySem.W.set_plain I.kIn (ox := { cls := .ref C, dict := none, data := .fields #[.ref ta0, .none, .none, .none, .bool false, .none] }) (od := none) ⟨ho, rfl, rfl, trivial⟩ T.sa ?_
  refine set_first I.kIn ho ci mk rfl no fun h2 tk2 dx kk dn dne hx hn => ?_
  have fr : H dx = none := I.hok.fresh dn
  have nd : ∀ {b : Addr} {o : Obj}, hp.get? b = some o → b ≠ dx := fun {b o} z => Nat.ne_of_lt (Nat.lt_of_lt_of_le (Heap.lt_size z) dn)
  have na : ∀ {b : Addr}, H b = none → b ≠ a := fun {b} n z => by
    rw [z, e] at n
    cases n
  have U : Un X.fs [] H (upd (upd H dx (exd dx [(f, y)])) a (exo a C (some dx))) hp h2 := {
    keep := fun b o z n _ _ => kk b o (na n) z
    slot := fun b o z n _ _ => ⟨o.slots, kk b o (na n) z⟩
    free := fun b o z n _ => by
      rw [upd_ne (na n), upd_ne (nd z)]
      exact n
    there := fun b o z _ => by
      by_cases w : b = a
      · exact ⟨_, by rw [w]; exact hx⟩
      · exact ⟨o, kk b o w z⟩
    tups := fun b xs z => by
      rw [upd_ne (at_ne e z exo_tup), upd_ne (ne_of_none z fr)]
      exact z
    frzs := fun b o v z => by
      rw [upd_ne (at_ne e z exo_frz), upd_ne (ne_of_none z fr)]
      exact z
    tbls := fun b ps z => ⟨#[], by rw [upd_ne (at_ne e z exo_tbl), upd_ne (ne_of_none z fr), z]; simp⟩ }
  refine h dx _ fr dne (I.un (t' := tk2) U fun b o z => ?_)
  by_cases w : b = a
  · subst w
    rw [upd_same] at z
    cases z
    exact exo_ok hx
  · rw [upd_ne w] at z
    by_cases w2 : b = dx
    · subst w2
      rw [upd_same] at z
      cases z
      exact exd_ok hn (relO_put (fs := []) ry fun _ => True.intro)
    · rw [upd_ne w2] at z
      refine (I.hok b o z).stay (fun c v c0 zz => kk c v ?_ zz) (fun c c0 => ?_) (fun c xs c0 => ?_)
      · rcases c0 with c0 | c0
        · rw [c0]
          exact w
        · exact at_ne e c0 exo_own
      · rw [upd_ne (at_ne e c0 exo_own), upd_ne (ne_of_none c0 fr)]
        exact c0
      · rw [upd_ne (at_ne e c0 exo_tup), upd_ne (ne_of_none c0 fr)]
        exact c0
end
/-! readings and rules -/
/-- Base.__init__(self, ..) by the standard initId -/
def tBaseI (K : PySem.W.Frag) (C : Addr) (B newId initId : String) (bmB : List Value) (ta : TA) : TE := fun σ H Q => ta σ H fun vs H1 => ∃ (a : Addr) (ws : List V), vs = .ref a :: ws ∧ ws.length ≤ 1000 ∧ OexG K C B newId initId bmB ∧ H1 a = some (exo a C none) ∧ Q .non H1
/-- self.f = e, the first field of it -/
def tFst (K : PySem.W.Frag) (C : Addr) (B newId initId : String) (bmB : List Value) (f : Str) (to te : TE) : TS := fun D σ H => te σ H fun y H1 => to σ H1 fun x H2 => ∃ a : Addr, x = .ref a ∧ OexG K C B newId initId bmB ∧ PySem.W.findIn K (.ref C) f = some none ∧
  H2 a = some (exo a C none) ∧ ∀ dx, H2 dx = none → dx ≠ a → D.nx σ (upd (upd H2 dx (exd dx [(f, y)])) a (exo a C (some dx)))
theorem ps_fst {X : Cx} {o e : Expr} {to te : TE} {f : Str} {p2 pos : Pos} {C : Addr} {B newId initId : String} {bmB : List Value} (ho : PE X o to) (he : PE X e te) (hs : swapsWith e (some (.Attribute o f p2)) pos.line X.env = pure false := by rfl) : PS X (.Assign [.Attribute o f p2] e pos) (tFst X.K C B newId initId bmB f to te) := by
  refine ⟨fun pins s σ H D I h => plainObj_wpAny_Assign_Attribute (thn (he.run pins s σ H _ I h) fun v s1 z1 => ?_) hs⟩
  obtain ⟨y, H1, I1, r1, q1⟩ := z1
  refine thn (ho.run pins s1 σ H1 _ I1 q1) fun u s2 z2 => ?_
  obtain ⟨x, H2, I2, r2, a, ex, T, no, ea, q⟩ := z2
  subst ex
  have e0 : u = Value.ref a := r2
  subst e0
  exact first_field T I2 ea no r1 fun dx s3 n ne J => ⟨σ, _, J, q dx n ne⟩
/-- what the top has made of an own Base without an __init__ -/
structure BaseG (K : PySem.W.Frag) (D : Addr) (initId : String) : Prop where
  rd : PySem.W.readsIn K D (.type "type") = true
  ga : PySem.W.specialIn K (.ref D) "__getattribute__" = some (some (.builtin "type.__getattribute__"))
  vi : PySem.W.findCls K (.ref D) (.type "type") "__init__" = some (.val (.builtin initId))
  hi : PySem.W.handedIn (.builtin initId) = true
theorem pe_ownbaseG {X : Cx} {e : Expr} {es : List Expr} {ta : TA} {D C : Addr} {bx : Str} {p1 p2 pos : Pos} {pl : Sem Bool} {B newId initId : String} {bmB : List Value} (T : BaseG X.K D initId) (hg : Gl X bx) (hm : X.mg bx = some (.ref D)) (ha : PA X (e :: es) ta) (hdb : (bx == ("__debug__" : Str)) = false := by decide)
    (hc : eval (.Call (.Attribute (.Name bx p1) "__init__" p2) (e :: es) [] pos) X.env = (do let ov ← eval (.Name bx p1) X.env; standAt p2.atName; let (f, first) ← holding [ov] (getMethod ov "__init__" pl); callWith pos f first (backTo pos (starEach (e :: es) X.env)) (backToKw pos (keywordEach [] X.env))) := by rfl)
    (he : starEach (e :: es) X.env = (false, eval e X.env) :: starEach es X.env := by rfl) (hpl : (backTo pos (starEach es X.env)).any (·.1) = false := by rfl) :
    PE X (.Call (.Attribute (.Name bx p1) "__init__" p2) (e :: es) [] pos) (tBaseI X.K C B newId initId bmB ta) := by
  refine ⟨fun pins s σ H Q I h => PySem.W.methodCall_KW (ld_glob I hg hm ?_ hdb) hc⟩
  refine PySem.W.method_cls I.kIn T.ga (PySem.W.cls_value I.kIn T.rd T.vi T.hi ?_)
  show wpAny _ _ (callWith pos (Value.builtin initId) [] (backTo pos (starEach (e :: es) X.env)) []) _ _ _
  refine callWith_method1 (thn (ha.run pos pins _ σ H _ (I.tok _) h) fun us s1 z => ?_) he hpl
  obtain ⟨vs, H1, I1, r1, a, ws, ev, hl, O, ea, q⟩ := z
  subst ev
  cases r1 with
  | @cons _ u0 _ ur ra rw' =>
    have e0 : u0 = Value.ref a := ra
    subst e0
    have le : ur.length ≤ sizeLine := by
      have := Paired.length rw'
      rw [sizeLine_eq]
      omega
    exact base_init O I1 ea le fun s2 J => ⟨.non, H1, J, rfl, q⟩
/-- the heap with a new exception of the class at C, its args behind it -/
abbrev hNew (h : Heap) (us : List Value) (C : Addr) : Heap := (h.push (PySem.W.kdv_tup us)).push (PySem.HandSPX.excO C h.objs.size)
abbrev aNew (h : Heap) : Addr := h.objs.size + 1
theorem hNew_old {h : Heap} {us : List Value} {C : Addr} : ∀ b o, h.get? b = some o → (hNew h us C).get? b = some o := fun _ _ e => (Heap.get?_push_of_some _ e |> Heap.get?_push_of_some _)
theorem hNew_at {h : Heap} {us : List Value} {C : Addr} : (hNew h us C).get? (aNew h) = some (PySem.HandSPX.excO C h.objs.size) := by heap_get
/-- C(e, ..): such an exception is made, its own __init__ keeping sp -/
theorem pmk_any {X : Cx} {e : Expr} {es : List Expr} {ta : TA} {p pos : Pos} {CX : CXT} {x : Str} {C fI : Addr} {k : Nat} {fd : FuncData} {ps : List Str} {sp : Sp} {ds : List Value} {dvs : List V} {B newId initId : String} {bmB : List Value} (T : OexG X.K C B newId initId bmB)
    (iC : PySem.W.findIn X.K (.ref C) "__init__" = some (some (.ref fI))) (tI : PySem.W.typeIn X.K (.ref fI) = some (.type "function")) (F1 : FnOk X.prog X.w X.K X.mg X.base CX k fI fd ps sp) (hr : Room (k + 1) X.A) (hb : Binds X.K fd ps ds) (hd : Vals dvs ds)
    (hx : Passes CX X (fun _ _ _ => False)) (hg : Gl X x) (hm : X.mg x = some (.ref C)) (ha : PA X (e :: es) ta) (hdb : (x == ("__debug__" : Str)) = false := by decide)
    (he : starEach (e :: es) X.env = (false, eval e X.env) :: starEach es X.env := by rfl) (hpl : (backTo pos (starEach es X.env)).any (·.1) = false := by rfl) : PMk X (.Call (.Name x p) (e :: es) [] pos) (tMkO C sp dvs ta) := by
  intro pins s σ H Q I h
  obtain ⟨nm, q, N, bs, bm, sn, sub, ab, col, dd, k0, k1, k2, k3, k5, lk, hT, _⟩ := T.cls
  refine wpAny_Call_Name_kw (ld_glob I hg hm ?_ hdb) |> id
  refine PySem.W.callWith_K (h₀ := X.base) I.ok.mod.kin T.kC (thn (ha.run pos pins s σ H _ I h) fun us s1 z => ?_) he hpl
  obtain ⟨vs, H1, I1, rv0, hz, q1⟩ := z
  refine ⟨I1.kIn, (?_ : wpAny _ _ (call (.ref C) us) _ _ _)⟩
  obtain ⟨hp, g0, d0, u0, o0⟩ := s1
  have up1 : hp.objs.size ≤ aNew hp := Nat.le_succ _
  have free1 : H1 (aNew hp) = none := I1.hok.fresh up1
  have want := q1 (aNew hp) free1
  have I2 : Inv X pins σ (upd H1 (aNew hp) (exo (aNew hp) C none)) ⟨hNew hp us C, g0, d0, u0, o0⟩ := I1.laid (t' := u0) (o := exo (aNew hp) C none) hNew_old up1 (exo_ok hNew_at)
  have rel2 : Vals (.ref (aNew hp) :: (vs ++ dvs)) (.ref (aNew hp) :: (us ++ ds)) := .cons rfl (rv0.append hd)
  have len2 : (Value.ref (aNew hp) :: us ++ ds).length = ps.length := (rel2.length.symm).trans (F1.len _ _ _ _ want)
  have lu : us.length ≤ sizeLine := by
    have := Paired.length rv0
    rw [sizeLine_eq]
    omega
  refine wpAny_call (PySem.HandSPX.call_own T.bf hT (I1.kIn _ _ lk) (PySem.W.looks_findIn I1.kIn iC) (fun self => PySem.W.bind_fn I1.kIn self tI) lu (codeAny_mono (F1.run _ X.stack _ _ ⟨.ref (aNew hp) :: us, []⟩ (.ref (aNew hp) :: (us ++ ds)) _ _ (fun _ _ _ => False)
    (hr.make C us []) (I2.env0.make C us []) (hb _ (.ref (aNew hp) :: us) I2.kIn len2) rel2 want) fun r s2 back => ?_))
  match r, back with
  | .error er, back => exact hx pins σ _ _ er s2 I2 back
  | .ok (.ret _), ⟨v, H2, os2, bare2, un2, hok2, rv, ev, d, fs, ea, ed, hd1, q2⟩ =>
    subst ev
    obtain ⟨h2, g2, d2, t2, os'⟩ := s2
    exact ⟨rv, mk_end (raises_own T.exC T.tyC) I1 up1 hNew_old un2 hok2 os2 bare2 ea ed hd1 q2⟩
  | .ok .next, back => exact back.elim
  | .ok .brk, back => exact back.elim
  | .ok .cont, back => exact back.elim
end Rv
/-! A test of the written part: is the class at C such an exception class. -/
namespace Rv
open PySem PySem.Spec PyProof.Rows L2
theorem tl_ok {bmB : List Value} (h0 : Mok bmB) : ∀ l : List Value, tlB bmB l = true → Mok l ∧ ∀ Y : String, l.contains (.type Y) = bmB.contains (.type Y)
  | .ref c :: r, e => by
    obtain ⟨z1, z2⟩ := tl_ok h0 r (show tlB bmB r = true from e)
    refine ⟨mok_ref z1, fun Y => ?_⟩
    rw [List.contains_cons, z2]
    rfl
  | [], e => by
    have z : [] = bmB := of_decide_eq_true e
    subst z
    exact ⟨h0, fun _ => rfl⟩
  | .none :: r, e => by have z := of_decide_eq_true (show decide (_ = bmB) = true from e); subst z; exact ⟨h0, fun _ => rfl⟩
  | .ellipsis :: r, e => by have z := of_decide_eq_true (show decide (_ = bmB) = true from e); subst z; exact ⟨h0, fun _ => rfl⟩
  | .notImplemented :: r, e => by have z := of_decide_eq_true (show decide (_ = bmB) = true from e); subst z; exact ⟨h0, fun _ => rfl⟩
  | .bool _ :: r, e => by have z := of_decide_eq_true (show decide (_ = bmB) = true from e); subst z; exact ⟨h0, fun _ => rfl⟩
  | .int _ _ :: r, e => by have z := of_decide_eq_true (show decide (_ = bmB) = true from e); subst z; exact ⟨h0, fun _ => rfl⟩
  | .float _ _ :: r, e => by have z := of_decide_eq_true (show decide (_ = bmB) = true from e); subst z; exact ⟨h0, fun _ => rfl⟩
  | .str _ _ :: r, e => by have z := of_decide_eq_true (show decide (_ = bmB) = true from e); subst z; exact ⟨h0, fun _ => rfl⟩
  | .bytes _ _ :: r, e => by have z := of_decide_eq_true (show decide (_ = bmB) = true from e); subst z; exact ⟨h0, fun _ => rfl⟩
  | .type _ :: r, e => by have z := of_decide_eq_true (show decide (_ = bmB) = true from e); subst z; exact ⟨h0, fun _ => rfl⟩
  | .builtin _ :: r, e => by have z := of_decide_eq_true (show decide (_ = bmB) = true from e); subst z; exact ⟨h0, fun _ => rfl⟩
theorem cx_ok {K : PySem.W.Frag} {C : Addr} {newId : String} {bmB : List Value} (h0 : Mok bmB) (h : cxB K C newId bmB = true) :
    ∃ nm q N bs bm sn sub ab col dd k0 k1 k2 k3 k5, K.lookup C = some (excClassObj nm q C N bs bm true sn sub ab col dd k0 k1 k2 k3 k5 newId) ∧ (∀ Y : String, bm.contains (.type Y) = bmB.contains (.type Y)) ∧ Mok (.ref C :: bm) := by
  unfold cxB at h
  split at h
  · rename_i m dd z sl lk
    obtain ⟨e1, h⟩ := He.ba h
    have e1 := of_decide_eq_true e1
    subst e1
    split at h
    · rename_i D r j0 j1 j2 j3 n j5 hm hs
      obtain ⟨_, h⟩ := He.ba h
      obtain ⟨e2, h⟩ := He.ba h
      obtain ⟨e3, h⟩ := He.ba h
      obtain ⟨e4, h⟩ := He.ba h
      obtain ⟨e5, e6⟩ := He.ba h
      have e2 := of_decide_eq_true e2
      have e3 := of_decide_eq_true e3
      subst e2 e3
      obtain ⟨w1, w2, w3, w4, w5, w6, w7, w8, w9, w10, w11⟩ := z
      dsimp only at hm e4 e5
      have e4 : w11 = false := by
        cases w11 with
        | false => rfl
        | true => cases e4
      subst hm e4 e5
      have e7 : sl = #[j0, j1, j2, j3, some (.builtin n), j5] := by
        obtain ⟨l⟩ := sl
        simp only at hs
        rw [hs]
      subst e7
      obtain ⟨y1, y2⟩ := tl_ok h0 r e6
      exact ⟨_, _, _, _, r, _, _, _, _, _, _, _, _, _, _, lk, y2, mok_ref y1⟩
    · cases h
  · cases h
theorem ox_ok {K : PySem.W.Frag} {x : Str} {B newId initId : String} {bmB : List Value} (bf : ExcBaseFacts B newId initId bmB) (h0 : Mok bmB) (h : oxB K x newId bmB = true) : OexG K (He.ga K x) B newId initId bmB := by
  obtain ⟨h1, h⟩ := He.ba h
  obtain ⟨h2, h⟩ := He.ba h
  obtain ⟨h3, h⟩ := He.ba h
  obtain ⟨h4, h5⟩ := He.ba h
  exact ⟨bf, cx_ok h0 h1, He.eqO_ok h2, of_decide_eq_true h3, of_decide_eq_true h4, h5⟩
theorem bg_ok {K : PySem.W.Frag} {x : Str} {i : String} (h : bgB K x i = true) : BaseG K (He.ga K x) i := by
  obtain ⟨h1, h⟩ := He.ba h
  obtain ⟨h2, h⟩ := He.ba h
  obtain ⟨h3, h4⟩ := He.ba h
  refine ⟨h1, He.eqO_ok h2, ?_, h3⟩
  cases e : PySem.W.findCls K (.ref (He.ga K x)) (.type "type") "__init__" with
  | none =>
    rw [e] at h4
    cases h4
  | some f =>
    rw [e] at h4
    cases f with
    | val v =>
      cases v with
      | builtin n =>
        have z : n = i := of_decide_eq_true h4
        rw [z]
      | _ => cases h4
    | _ => cases h4
end Rv
namespace Rv
open PySem PySem.Spec PyProof.Rows L2
/-! exceptions of own classes: raised in defs, caught in the law -/
theorem takesF {X : Cx} : Takes X fun _ _ _ _ => False := fun u s' x => by
  obtain ⟨_, _, _, _, _, _, _, _, _, _, _, _, _, _, _, _, w⟩ := x
  exact w.elim
/-- raise e -/
def tRaise (t : L2.St → Hp → XK → Prop) (E : XK) : TS := fun _ σ H => t σ H fun cls d H' => E cls d H'
theorem ps_raiseE {X : Cx} {E : XK} {e : Expr} {t : L2.St → Hp → XK → Prop} {pos : Pos} (he : PMk X e t) (tk : Takes X fun cls d _ H => E cls d H) (hc : X.calm = true := by rfl) : PS X (.Raise (some e) none pos) (tRaise t E) := ps_raise hc tk he
/-- an own exception class with its __init__ -/
structure CalX (P : Program) (w : World) (K : PySem.W.Frag) (mg : Str → Option Value) (base : Heap) (CX : CXT) (k : Nat) (x : Str) (C : Addr) (ps : List Str) (sp : Sp) (dvs : List V) (B newId initId : String) (bmB : List Value) : Prop where
  ex : ∃ f fd ds, FnOk P w K mg base CX k f fd ps sp ∧ OexG K C B newId initId bmB ∧ PySem.W.findIn K (.ref C) "__init__" = some (some (.ref f)) ∧ PySem.W.typeIn K (.ref f) = some (.type "function") ∧ mg x = some (.ref C) ∧ Binds K fd ps ds ∧ Vals dvs ds
theorem pmk_cal {X : Cx} {CX : CXT} {k : Nat} {x : Str} {C : Addr} {ps : List Str} {sp : Sp} {dvs : List V} {B newId initId : String} {bmB : List Value} {e : Expr} {es : List Expr} {ta : TA} {p pos : Pos} (c : CalX X.prog X.w X.K X.mg X.base CX k x C ps sp dvs B newId initId bmB) (hr : Room (k + 1) X.A) (hx : Passes CX X (fun _ _ _ => False)) (hg : Gl X x) (ha : PA X (e :: es) ta)
    (hdb : (x == ("__debug__" : Str)) = false := by decide) (he : starEach (e :: es) X.env = (false, eval e X.env) :: starEach es X.env := by rfl) (hpl : (backTo pos (starEach es X.env)).any (·.1) = false := by rfl) : PMk X (.Call (.Name x p) (e :: es) [] pos) (tMkO C sp dvs ta) := by
  obtain ⟨f, fd, ds, F, T, iC, tI, hm, hb, hd⟩ := c.ex
  exact pmk_any T iC tI F hr hb hd hx hg hm ha hdb he hpl
/-! .. at the state in which the call stands -/
/-- what is asked of a class by isinstance(e, ..), e with a dict -/
def rIsD (K : PySem.W.Frag) (D a : Addr) (cls : Value) (d : Option Addr) : List V → Hp → VK → Prop := fun xs H Q => cls = .ref D ∧ ∃ (c : V) (cv : Value) (b : Bool) (dd : Addr) (fs : List (Str × V)), xs = [.ref a, c] ∧ (∀ u, RelV c u → u = cv) ∧ d = some dd ∧ H dd = some (.xd fs) ∧ PySem.W.kitOne K (.ref D) cv = some b ∧ Q (.bl b) H
theorem call_isD {X : Cx} {a D : Addr} {oe : Obj} {cls : Value} {d : Option Addr} {pn : List (Addr × Obj)} (C : ExcC X.K D) (hz : Zc cls d oe) (hf : ∃ vs, oe.data = .fields vs) : CallR (X.suite a ((a, oe) :: pn)) (.builtin "isinstance") (rIsD X.K D a cls d) := by
  intro pins s σ H xs us Q I r h
  obtain ⟨ec, c, cv, b, dd, fs, rfl, hcv, ed, ea, e, q⟩ := h
  subst ec
  cases r with
  | cons rx rr =>
    cases rr with
    | cons rt rr =>
      cases rr
      cases rx
      have ec := hcv _ rt
      subst ec
      obtain ⟨hget, _⟩ := I.pin (a, oe) (List.mem_append.mpr (.inl List.mem_cons_self))
      obtain ⟨vs, hv⟩ := hf
      have hx : ObjOk X.prog X.w H s.heap dd (.xd fs) := I.hok dd _ ea
      obtain ⟨mA, hns, hr⟩ := hx
      obtain ⟨od, ho, hl⟩ := lookIn_ns hns
      have J : PySem.W.InstAt s.heap a oe D (some od) := ⟨hget, hz.1, by unfold PySem.W.notCls; rw [hv] <;> rfl, by rw [hz.2, ed]; exact ho⟩
      exact PySem.W.kia_one (PySem.W.kitx_exc (by obtain ⟨cd, hc, _⟩ := PySem.W.any_some C.hd; rw [hc]; rfl) C.hg C.hk C.hs C.ha C.hn C.ht C.hm) I.kIn J e (fun z => nomatch z) fun tk => ⟨.bl b, H, I.kept (t' := tk) fun _ _ z => z, rfl, q⟩
/-- an own exception's __init__(self, v): its one field is set -/
def spExc (K : PySem.W.Frag) (C : Addr) (B newId initId : String) (bmB : List Value) (f : Str) : Sp := fun vs H Q _ => ∃ p v, vs = [.ref p, v] ∧ OexG K C B newId initId bmB ∧ PySem.W.findIn K (.ref C) f = some none ∧ H p = some (exo p C none) ∧
  ∀ dx, H dx = none → dx ≠ p → Q .non (upd (upd H dx (exd dx [(f, v)])) p (exo p C (some dx)))
/-- what a new exception brings -/
theorem exc_new {K : PySem.W.Frag} {C : Addr} {B newId initId : String} {bmB : List Value} {f : Str} {H : Hp} {XQ : XK} {v : V} (T : OexG K C B newId initId bmB) (no : PySem.W.findIn K (.ref C) f = some none)
    (k : ∀ d H', H d = none → Same H H' → H' d = some (.xd [(f, v)]) → XQ (.ref C) (some d) H') :
    [v].length ≤ 1000 ∧ ∀ a, H a = none → spExc K C B newId initId bmB f (.ref a :: ([v] ++ [])) (upd H a (exo a C none))
      (fun v H2 => v = .non ∧ ∃ (d : Addr) (fs : List (Str × V)), H2 a = some (exo a C (some d)) ∧ H2 d = some (exd d fs) ∧ H d = none ∧ XQ (.ref C) (some d) (upd (del H2 a) d (.xd fs))) (fun _ _ _ => False) := by
  refine ⟨by show 1 ≤ 1000; decide, fun a na => ⟨a, v, rfl, T, no, upd_same, fun dx nd ne => ⟨rfl, dx, [(f, v)], upd_same, ?_, ?_, ?_⟩⟩⟩
  · rw [upd_ne ne, upd_same]
  · rw [upd_ne ne] at nd
    exact nd
  · rw [upd_ne ne] at nd
    refine k dx _ nd (fun b o hb => ?_) upd_same
    have n1 : b ≠ dx := ne_of_none hb nd
    have n2 : b ≠ a := ne_of_none hb na
    rw [upd_ne n1]
    show del (upd (upd (upd H a _) dx _) a _) a b = some o
    unfold del
    rw [if_neg n2, upd_ne n2, upd_ne n1, upd_ne n2]
    exact hb
theorem ec_of {K : PySem.W.Frag} {x : Str} (h : ecB K x = true) : ExcC K (He.ga K x) := by
  obtain ⟨h1, h⟩ := He.ba h
  obtain ⟨h2, h⟩ := He.ba h
  obtain ⟨h3, h⟩ := He.ba h
  obtain ⟨h4, h⟩ := He.ba h
  obtain ⟨h5, h⟩ := He.ba h
  obtain ⟨h6, h⟩ := He.ba h
  obtain ⟨h7, h8⟩ := He.ba h
  exact ⟨He.eqO_ok h1, He.eqO_ok h2, of_decide_eq_true h3, h4, He.eqO_ok h5, He.eqO_ok h6, of_decide_eq_true h7, of_decide_eq_true h8⟩
theorem p_exc {K : PySem.W.Frag} {C : Addr} {B newId initId : String} {bmB : List Value} {f : Str} {vs : List V} {H : Hp} {Q : VK} {E : XK} (m : Str) (h : spExc K C B newId initId bmB f vs H Q E) {N : List Str} (hN : ∀ p v, start N [.ref p, v] = [some (V.ref p), some v]) :
    tSeq (tDrop (tBaseI K C B newId initId bmB (tCons (tVar 0) (tCons (tC (.str m)) tNil)))) (tFst K C B newId initId bmB f (tVar 0) (tVar 1)) { nx := fun _ H' => Q .non H', rt := Q } (start N vs) H := by
  obtain ⟨p, v, rfl, T, no, hp, k⟩ := h
  rw [hN]
  refine w_seqD ?_
  refine ⟨_, rfl, ?_⟩
  refine ⟨p, [.str m], rfl, by show 1 ≤ 1000; decide, T, hp, ?_⟩
  refine ⟨_, rfl, ?_⟩
  refine ⟨_, rfl, ?_⟩
  exact ⟨p, rfl, T, no, hp, fun dx nd ne => k dx nd ne⟩
theorem w_raise {t : L2.St → Hp → XK → Prop} {E : XK} {D : Ends} {σ : L2.St} {H : Hp} (q : t σ H fun cls d H' => E cls d H') : tRaise t E D σ H := q
theorem w_mkO {C : Addr} {sp : Sp} {dvs : List V} {ta : TA} {σ : L2.St} {H : Hp} {Q : XK} (q : ta σ H fun vs H1 => vs.length ≤ 1000 ∧ ∀ a, H1 a = none → sp (.ref a :: (vs ++ dvs)) (upd H1 a (exo a C none))
  (fun v H2 => v = .non ∧ ∃ (d : Addr) (fs : List (Str × V)), H2 a = some (exo a C (some d)) ∧ H2 d = some (exd d fs) ∧ H1 d = none ∧ Q (.ref C) (some d) (upd (del H2 a) d (.xd fs))) (fun _ _ _ => False)) : tMkO C sp dvs ta σ H Q := q
end Rv
namespace Rv
open PySem PySem.Spec PyProof.Rows L2
end Rv
/-! try with several clauses 'except C as n' of one name n. -/
namespace Rv
open PySem PySem.Spec PyProof.Rows L2
abbrev Cl := Value × (Addr → Value → Option Addr → TS)
/-- the wish of the clauses, one behind the other -/
def wAsL (K : PySem.W.Frag) (i : Nat) (Wo : WX) (D : Ends) : List Cl → WX
  | [] => Wo
  | p :: r => wAs K p.1 i p.2 (wAsL K i Wo D r) D
inductive AsL (X : Cx) (n : Str) : List ExceptHandler → List Cl → Prop
  | nil : AsL X n [] []
  | cons {x : Str} {c : Value} {ts : Addr → Value → Option Addr → TS} {b : Stmt} {bs : List Stmt} {q1 q2 : Pos} {hs : List ExceptHandler} {l : List Cl} (hc : Names X x c)
      (su : ∀ (a : Addr) (oe : Obj) (cls : Value) (d : Option Addr) (pn : List (Addr × Obj)), Zc cls d oe → (∃ vs, oe.data = .fields vs) → PSs (X.suite a ((a, oe) :: pn)) (b :: bs) (ts a cls d)) (r : AsL X n hs l) :
      AsL X n (.ExceptHandler (some (.Name x q1)) (some n) (b :: bs) q2 :: hs) ((c, ts) :: l)
def tTryL (K : PySem.W.Frag) (i : Nat) (tb : WX → TS) (l : List Cl) (Wo : WX) : TS := fun D σ H => tb (wAsL K i Wo D l) D σ H
section
variable {X : Cx} {n : Str} {i : Nat} {pins : List (Addr × Obj)} {σ : L2.St} {H : Hp} {D : Ends} {a : Addr} {B hp : Heap} {cls : Value} {d : Option Addr} {Wo : WX} {sI s0 : Shared}
/-- an exception that has landed at this frame finds its clause -/
theorem land_in (hs : X.stack = X.env :: X.outer) (hf : X.env.frame = some X.env.locals) (hN : X.N.Nodup) (hi : X.N[i]? = some n) (hln : X.env.kindOf n = some .local) (tk : Takes X Wo) (J : Inv X pins σ H sI)
    (nb : ∀ b o, sI.heap.get? b = some o → b ∉ frs X.stack → B.get? b = some o) (up : sI.heap.UpToSlots hp) (na : H a = none) (os : s0.os = sI.os) (ag : AllBare s0.gens) (fl : HandSPX.FlyingZ B (X.env :: X.outer) a (Zc cls d) hp) :
    ∀ {hds : List ExceptHandler} {l : List Cl}, AsL X n hds l → wAsL X.K i Wo D l cls d σ H → wpAny (model X.prog X.w) X.A (handleBy (.ref a) X.env hds) (SP X pins D) X.xe { s0 with heap := hp } := by
  have ok := J.ok
  have land : ∀ {h1 : Heap}, HandSPX.FlyingZ B (X.env :: X.outer) a (Zc cls d) h1 → sI.heap.UpToSlots h1 → Inv X pins σ H { s0 with heap := h1 } := fun f1 u1 => J.landed nb f1.1 u1 os ag
  have I3 := land fl up
  obtain ⟨oe, vs, he, hz, hd⟩ := fl.there
  have out : a ∉ frs (X.env :: X.outer) := fun hm => by
    obtain ⟨_, o1, e1, nf⟩ := fl.2.2.1.mem hm
    cases he.symm.trans e1
    exact nf _ hd
  have nL : a ≠ X.env.locals := fun z => out (List.mem_filterMap.mpr ⟨X.env, List.mem_cons_self, by rw [hf, z]⟩)
  have nF : a ∉ X.fs := fun hm => by
    obtain ⟨e1, m1, q1⟩ := List.mem_filterMap.mp hm
    exact out (List.mem_filterMap.mpr ⟨e1, List.mem_cons_of_mem _ m1, q1⟩)
  have S3 := I3.suite he hd na nL nF
  intro hds l hl
  induction hl with
  | nil =>
    intro w
    refine wpAny_handleBy_nil ?_
    obtain ⟨_, _, _, o1, v1, T, oT, t1, g1, g2, g3, g4, _⟩ := id fl
    unfold PySem.passOn
    refine wpAny_bind (wpAny_field g1 g3 g4 ?_)
    rw [if_neg (by simp)]
    have last : wpAny (model X.prog X.w) X.A (setFlight (.ref a) X.env.frame) (fun _ s4 => wpAny (model X.prog X.w) X.A (throw (.ref a) : Sem Flow) (SP X pins D) X.xe s4) X.xe { s0 with heap := hp } := by
      rw [hf]
      refine HandSPX.setFlight_upZ fl fun h4 hh u4 => wpAny_throw (tk _ _ ?_)
      exact ⟨a, B, sI, pins, σ, H, cls, d, rfl, J, nb, up.trans u4, .inr (.inr (by rw [hs]; exact hh)), na, os, ag, w⟩
    first
      | exact wpAny_bind (wpAny_pure (wpAny_bind last))
      | exact wpAny_bind last
  | @cons x c0 ts b bs q1 q2 hds2 l2 hc su r ih =>
    rintro ⟨c, hb1, yes, no⟩
    refine wpAny_handleBy_cons (codeAny_handlers_test ?_) (fun q => nomatch q)
    have LT : PySem.W.Looks (model X.prog X.w) hp (typeOf (.ref a)) cls := fun A Q E s k q => wpAny_typeOf_ref (k _ _ he) (by rw [hz.1]; exact q)
    have LM := PySem.W.exm_one (M := model X.prog X.w) I3.kIn LT hb1
    have name : ∀ {Q E : Value → Shared → Prop}, Q c0 { s0 with heap := hp } → wpAny (model X.prog X.w) (X.A.mark (some (.ref a))) (eval (.Name x q1) X.env) Q E { s0 with heap := hp } := fun {Q E} q => by
      rcases hc with ⟨k1, k2, k3 | ⟨k3, k4, k5⟩⟩
      · exact ld_glob (X := X.suite a ((a, oe) :: (X.pn ++ pins))) S3 k1 k3 q k2
      · exact ld_blt (X := X.suite a ((a, oe) :: (X.pn ++ pins))) S3 k1 k3 k4 q k5 k2
    refine name (LM.here ?_)
    cases c with
    | false =>
      show wpAny _ X.A (handleBy (.ref a) X.env hds2) _ _ _
      exact ih (no rfl)
    | true =>
      refine codeAny_handlers_suite_as ?_
      refine HandSPX.lands_againZ fl fun h4 fl4 u4 => ?_
      obtain ⟨o4, v4, he4, hz4, hd4⟩ := fl4.there
      have S4 := (land fl4 (up.trans u4)).suite he4 hd4 na nL nF
      refine store_ok (X := X.suite a ((a, o4) :: (X.pn ++ pins))) (v := .ref a) S4 hN hi (.inl hln) rfl (fun s5 S5 => ?_) (.inr hln)
      have fin : ∀ {σ6 : L2.St} {H6 : Hp} {s6 : Shared} {R : Shared → Prop}, Inv (X.suite a ((a, o4) :: (X.pn ++ pins))) [] σ6 H6 s6 → (∀ s7, Inv X pins (σ6.set i none) H6 s7 → R s7) →
          wpAny (model X.prog X.w) X.A (do bindName X.env n .none; unbindBehindTheSuite X.env n q2) (fun _ s7 => R s7) X.xe s6 := fun {σ6 H6 s6 R} S6 hq => gone_ok (S6.unsuite ok) hN hi hln hq
      refine wpAny_mono ((su a o4 cls d (X.pn ++ pins) hz4 ⟨_, hd4⟩).run [] s5 _ H _ S5 (yes rfl a na)) (fun f s6 q6 => ?_) (fun _ _ z => z.elim)
      cases f with
      | next =>
        obtain ⟨σ6, H6, S6, q⟩ := q6
        exact fin S6 fun s7 J7 => ⟨_, _, J7, q⟩
      | brk =>
        obtain ⟨σ6, H6, S6, q⟩ := q6
        exact fin S6 fun s7 J7 => ⟨_, _, J7, q⟩
      | cont =>
        obtain ⟨σ6, H6, S6, q⟩ := q6
        exact fin S6 fun s7 J7 => ⟨_, _, J7, q⟩
      | ret u =>
        obtain ⟨v6, σ6, H6, S6, r6, q⟩ := q6
        exact fin S6 fun s7 J7 => ⟨_, _, _, J7, r6, q⟩
end
section
variable {X : Cx} {n : Str} {i : Nat} {body : List Stmt} {h0 : ExceptHandler} {hds : List ExceptHandler} {l : List Cl} {pos : Pos} {tb : WX → TS} {Wo : WX}
theorem ps_tryL (hs : X.stack = X.env :: X.outer) (hf : X.env.frame = some X.env.locals) (hN : X.N.Nodup) (hi : X.N[i]? = some n) (hln : X.env.kindOf n = some .local) (tk : Takes X Wo)
    (hb : ∀ (W : WX) (pn : List (Addr × Obj)) (xe : Value → Shared → Prop), Takes (X.tr pn xe) W → PassesOwn (model X.prog X.w) X.A X.env xe → PSs (X.tr pn xe) body (tb W))
    (hh : AsL X n (h0 :: hds) l) : PS X (.Try body (h0 :: hds) [] [] pos) (tTryL X.K i tb l Wo) := by
  refine ⟨fun pins s σ H D I h => ?_⟩
  have ok := I.ok
  have fr : X.A.frames = some (X.env :: X.outer) := by rw [ok.frames, hs]
  refine wpAny_Try_except ?_
  refine wpAny_mono ((hb (wAsL X.K i Wo D l) (X.pn ++ pins) (fun e s1 => wpAny (model X.prog X.w) X.A (noteFrame e X.env) (fun _ s2 => wpAny (model X.prog X.w) X.A (setFlight e none) (fun _ s3 =>
    wpAny (model X.prog X.w) X.A (handleBy e X.env (h0 :: hds)) (SP X pins D) X.xe s3) X.xe s2) X.xe s1) (fun u s' xx => ?_) PassesOwn.looking).run [] s σ H D (I.toTry _) h) (fun f s1 q => ?_) (fun _ _ z => z)
  · obtain ⟨a, B, sI, pins', σ', H', cls, d, rfl, J, nb, up, sky, na, os, ag, w⟩ := xx
    refine Sky.land Zc.steady fr hf (by rw [← hs]; exact sky) fun h3 fl up3 => ?_
    exact land_in hs hf hN hi hln tk (J.ofTry ok) nb (up.trans up3) na os ag fl hh w
  · cases f with
    | next =>
      obtain ⟨σ', H', J, q⟩ := q
      exact wpAny_execs_nil ⟨σ', H', J.ofTry ok, q⟩
    | brk =>
      obtain ⟨σ', H', J, q⟩ := q
      exact ⟨σ', H', J.ofTry ok, q⟩
    | cont =>
      obtain ⟨σ', H', J, q⟩ := q
      exact ⟨σ', H', J.ofTry ok, q⟩
    | ret u =>
      obtain ⟨v, σ', H', J, r, q⟩ := q
      exact ⟨v, σ', H', J.ofTry ok, r, q⟩
end
end Rv
/-! Own defs that are called while an exception is handled (they raise nothing themselves), and repr there. -/
namespace Rv
open PySem PySem.Spec PyProof.Rows L2 L2H
end Rv
namespace Rv
open PySem PySem.Spec PyProof.Rows L2
/-- all that lies at H lies at H', but for a list at f -/
def Kx (f : Addr) (H H' : Hp) : Prop := ∀ b o, H b = some o → ((∀ xs, o ≠ .lst xs) ∨ b ≠ f) → H' b = some o
theorem Kx.refl (f : Addr) (H : Hp) : Kx f H H := fun _ _ h _ => h
theorem ProfAt.kx {K : PySem.W.Frag} {C : Addr} {H H' : Hp} {f p : Addr} {hs ws : List Int} (h : ProfAt K C H p hs ws) (e : Kx f H H') : ProfAt K C H' p hs ws := by
  obtain ⟨dx, t1, t2, h0, h1, h2⟩ := h
  exact ⟨dx, t1, t2, e _ _ h0 (.inl fun _ z => nomatch z), e _ _ h1 (.inl fun _ z => nomatch z), e _ _ h2 (.inl fun _ z => nomatch z)⟩
theorem ProfAt.but {K : PySem.W.Frag} {C d : Addr} {H H' : Hp} {p : Addr} {hs ws : List Int} (h : ProfAt K C H p hs ws) (e : But d H H') (hd : ∃ xs, H d = some (.lst xs)) : ProfAt K C H' p hs ws := by
  obtain ⟨xs, hd⟩ := hd
  refine h.kx (f := d) fun b o hb q => ?_
  by_cases hbd : b = d
  · subst hbd
    rw [hd] at hb
    cases hb
    exact q.elim (fun z => absurd rfl (z xs)) fun z => absurd rfl z
  · exact e b o hbd hb
theorem st_is {s : TS} {D : Ends} {σ : L2.St} (σ' : L2.St) {H : Hp} (e : σ = σ') (q : s D σ' H) : s D σ H := by
  subst e
  exact q
theorem ixN_nat {n i : Nat} (h : i < n) : ixN n (i : Int) = some i := by
  unfold ixN
  rw [if_pos (by omega), if_pos (by omega), Int.toNat_natCast]
def OddR (H : Hp) (v : V) : Prop := v = .non ∨ (∃ b, v = .bl b) ∨ (∃ s, v = .str s) ∨ (∃ p xs, v = .ref p ∧ H p = some (.lst xs)) ∨ (∃ p xs, v = .ref p ∧ H p = some (.tup xs)) ∨ ∃ p kvs, v = .ref p ∧ H p = some (.dK kvs)
theorem OddR.same {H H' : Hp} {v : V} (h : OddR H v) (e : Same H H') : OddR H' v := by
  rcases h with h | h | h | ⟨p, xs, h1, h2⟩ | ⟨p, xs, h1, h2⟩ | ⟨p, xs, h1, h2⟩
  · exact .inl h
  · exact .inr (.inl h)
  · exact .inr (.inr (.inl h))
  · exact .inr (.inr (.inr (.inl ⟨p, xs, h1, e _ _ h2⟩)))
  · exact .inr (.inr (.inr (.inr (.inl ⟨p, xs, h1, e _ _ h2⟩))))
  · exact .inr (.inr (.inr (.inr (.inr ⟨p, xs, h1, e _ _ h2⟩))))
local macro_rules | `(tactic| walk_at "rv st") => `(tactic| first
  | with_reducible refine iteT ?_ | with_reducible refine iteF ?_ | with_reducible refine w_nx ?_ | with_reducible refine w_yes ?_ | with_reducible refine w_rt ?_ | with_reducible refine iteNT ?_ | with_reducible refine iteNF ?_ | with_reducible refine iteNRf ?_ | with_reducible refine iteRf ?_ | with_reducible refine w_seqA ?_ | with_reducible refine w_seqD ?_ | with_reducible refine w_seqP ?_ | with_reducible refine w_asg ?_ | with_reducible refine w_ret ?_ | with_reducible refine w_drop ?_ | with_reducible refine w_ifs ?_ | with_reducible refine w_next ?_ | with_reducible refine w_par ?_
  | with_reducible refine w_op ?_ | with_reducible refine w_un ?_ | ((with_reducible show tVar _ _ _ _); refine' w_var ?hv ?_; (case hv => exact rfl)) | with_reducible refine w_c ?_ | with_reducible refine w_test ?_ | with_reducible refine w_tB ?_
  | with_reducible refine w_bl ?_ | with_reducible refine w_I0 ?_ | with_reducible refine w_U ?_ | with_reducible refine w_eqI ?_ | with_reducible refine w_neI ?_
  | with_reducible refine w_cons ?_ | with_reducible refine w_nil ?_ | with_reducible refine w_gn ?_ | with_reducible refine w_gsub ?_ | with_reducible refine w_and ?_ | with_reducible refine w_or ?_ | with_reducible refine w_not ?_
  | with_reducible refine w_andV ?_ | with_reducible refine w_orV ?_ | with_reducible refine w_notV ?_ | with_reducible refine w_if ?_ | with_reducible refine w_cb ?_ | with_reducible refine w_call ?_ | with_reducible refine w_lst ?_ | with_reducible refine w_tup ?_
  | with_reducible refine w_sl ?_ | with_reducible refine w_noPart ?_ | with_reducible refine w_part ?_ | with_reducible refine w_ex1 ?_ | with_reducible refine w_exb ?_ | with_reducible refine w_intB ?_ | with_reducible refine w_intI ?_ | with_reducible refine w_abs ?_)
local macro_rules | `(tactic| walk_at "rv ix") => `(tactic| ((with_reducible show rIxL _ _ _ _ _); refine' w_ixL (sq_lst ?ha) ?hb ?_; (case ha => first | exact upd_same | assumption); (case hb => first | exact rfl | assumption)))
local macro_rules | `(tactic| walk_at "rv ar") => `(tactic| first
  | (refine' w_I ?hc ?_; (case hc => first | (show (0 : Int) < _; first | assumption | decide | omega) | exact pow_c (by decide) (by decide) (by first | decide | omega) (by first | decide | omega) | exact mul_r (by first | decide | omega) (by first | decide | omega) | exact mul_l (by first | decide | omega) (by first | decide | omega) | exact divw (by first | assumption | decide | omega) (by first | assumption | decide | omega))))
local macro_rules | `(tactic| walk_at "rv go") => `(tactic| repeat first | walk_at "rv st" | walk_at "rv ix" | ((with_reducible show rI _ _ _ _ _ _); walk_at "rv ar"))
end Rv
namespace Rv
open PySem PySem.Spec PyProof.Rows L2
local macro_rules | `(tactic| walk_at "rv st") => `(tactic| first
  | with_reducible refine iteT ?_ | with_reducible refine iteF ?_ | with_reducible refine w_nx ?_ | with_reducible refine w_yes ?_ | with_reducible refine w_rt ?_ | with_reducible refine iteNT ?_ | with_reducible refine iteNF ?_ | with_reducible refine iteNRf ?_ | with_reducible refine iteRf ?_ | with_reducible refine w_seqA ?_ | with_reducible refine w_seqD ?_ | with_reducible refine w_seqP ?_ | with_reducible refine w_asg ?_ | with_reducible refine w_ret ?_ | with_reducible refine w_drop ?_ | with_reducible refine w_ifs ?_ | with_reducible refine w_next ?_ | with_reducible refine w_par ?_
  | with_reducible refine w_op ?_ | with_reducible refine w_un ?_ | ((with_reducible show tVar _ _ _ _); refine' w_var ?hv ?_; (case hv => exact rfl)) | with_reducible refine w_c ?_ | with_reducible refine w_test ?_ | with_reducible refine w_tB ?_
  | with_reducible refine w_bl ?_ | with_reducible refine w_I0 ?_ | with_reducible refine w_U ?_ | with_reducible refine w_eqI ?_ | with_reducible refine w_neI ?_
  | with_reducible refine w_cons ?_ | with_reducible refine w_nil ?_ | with_reducible refine w_gn ?_ | with_reducible refine w_gsub ?_ | with_reducible refine w_and ?_ | with_reducible refine w_or ?_ | with_reducible refine w_not ?_
  | with_reducible refine w_andV ?_ | with_reducible refine w_orV ?_ | with_reducible refine w_notV ?_ | with_reducible refine w_if ?_ | with_reducible refine w_cb ?_ | with_reducible refine w_call ?_ | with_reducible refine w_lst ?_ | with_reducible refine w_tup ?_
  | with_reducible refine w_sl ?_ | with_reducible refine w_noPart ?_ | with_reducible refine w_part ?_ | with_reducible refine w_ex1 ?_ | with_reducible refine w_exb ?_ | with_reducible refine w_intB ?_ | with_reducible refine w_intI ?_ | with_reducible refine w_abs ?_)
local macro_rules | `(tactic| walk_at "rv ix") => `(tactic| ((with_reducible show rIxL _ _ _ _ _); refine' w_ixL (sq_lst ?ha) ?hb ?_; (case ha => first | exact upd_same | assumption); (case hb => first | exact rfl | assumption)))
local macro_rules | `(tactic| walk_at "rv ar") => `(tactic| first
  | (refine' w_I ?hc ?_; (case hc => first | (show (0 : Int) < _; first | assumption | decide | omega) | exact pow_c (by decide) (by decide) (by first | decide | omega) (by first | decide | omega) | exact mul_r (by first | decide | omega) (by first | decide | omega) | exact mul_l (by first | decide | omega) (by first | decide | omega) | exact divw (by first | assumption | decide | omega) (by first | assumption | decide | omega))))
local macro_rules | `(tactic| walk_at "rv go") => `(tactic| repeat first | walk_at "rv st" | walk_at "rv ix" | ((with_reducible show rI _ _ _ _ _ _); walk_at "rv ar"))
theorem w_xf {σ : L2.St} {H : Hp} {Q : VK} {a C dd : Addr} {n : Nat} {f : Str} {fs : List (Str × V)} {v : V} (hn : σ[n]? = some (some (.ref a))) (hd : H dd = some (.xd fs)) (hl : fs.lookup f = some v) (q : Q v H) : tXf a (.ref C) (some dd) C f (tVar n) σ H Q := ⟨_, hn, rfl, rfl, dd, fs, v, rfl, hd, hl, q⟩
theorem w_isD {K : PySem.W.Frag} {H : Hp} {Q : VK} {D a dd : Addr} {fs : List (Str × V)} {c : V} {cv : Value} {b : Bool} (hc : ∀ u, RelV c u → u = cv) (hd : H dd = some (.xd fs)) (hk : PySem.W.kitOne K (.ref D) cv = some b) (q : Q (.bl b) H) : rIsD K D a (.ref D) (some dd) [.ref a, c] H Q := ⟨rfl, c, cv, b, dd, fs, rfl, hc, rfl, hd, hk, q⟩
theorem sok_str (s : String) : PyData.strOk (Str.ofString s) = true := by
  unfold PyData.strOk Str.ofString
  rw [cpsOfBytes_string]
  simp only [List.all_toArray, List.all_map, List.all_eq_true, Function.comp, decide_eq_true_eq]
  intro c _
  have h := c.valid
  simp only [UInt32.isValidChar, Nat.isValidChar] at h
  show c.val.toNat < _
  omega
theorem sok_app {a b : Str} (h : PyData.strOk a = true) (g : PyData.strOk b = true) : PyData.strOk (a ++ b) = true := by
  unfold PyData.strOk at *
  show (a.cps ++ b.cps).all _ = true
  rw [Array.all_append, h, g]
  rfl
theorem sql_same {K : PySem.W.Frag} {H H' : Hp} {a : Addr} {xs : List V} (h : SqL K H a xs) (e : Same H H') : SqL K H' a xs := by
  rcases h with (h | ⟨o, h⟩) | h
  · exact .inl (.inl (e _ _ h))
  · exact .inl (.inr ⟨o, e _ _ h⟩)
  · exact .inr h
mutual
theorem dp_same {K : PySem.W.Frag} {H H' : Hp} (e : Same H H') : ∀ (d : PyData) (v : V), Dp K H v d → Dp K H' v d
  | .none, _, h => by cases h; exact .non
  | .bool b, _, h => by cases h; exact .bl b
  | .int i, _, h => by cases h; exact .int i
  | .str x, _, h => by cases h; exact .str x
  | .list ds, _, h => by
    cases h with
    | lst h1 h2 => exact .lst (sql_same h1 e) (dp_sameA e ds _ h2)
  | .tuple ds, _, h => by
    cases h with
    | tup h1 h2 => exact .tup (sqT_same0 h1 e) (dp_sameA e ds _ h2)
  | .dict _, _, h => by cases h
theorem dp_sameA {K : PySem.W.Frag} {H H' : Hp} (e : Same H H') : ∀ (ds : List PyData) (vs : List V), DpAll K H vs ds → DpAll K H' vs ds
  | [], _, h => by cases h; exact .nil
  | d :: r, _, h => by
    cases h with
    | cons h1 h2 => exact .cons (dp_same e d _ h1) (dp_sameA e r _ h2)
end
theorem neD_same {K : PySem.W.Frag} {H : Hp} {Q : VK} {x y : V} {d : PyData} (h1 : Dp K H x d) (h2 : Dp K H y d) (s : SeqAt.shaped d = true) (q : Q (.bl false) H) : rNeD K x y H Q := by
  refine ⟨d, d, h1, h2, s, s, ?_⟩
  rw [SeqAt.eqv_refl _ (SeqAt.canLay_of_shaped s)]
  exact q
end Rv
namespace Rv
open PySem PySem.Spec PyProof.Rows L2
local macro_rules | `(tactic| walk_at "rv st") => `(tactic| first
  | with_reducible refine iteT ?_ | with_reducible refine iteF ?_ | with_reducible refine w_nx ?_ | with_reducible refine w_yes ?_ | with_reducible refine w_rt ?_ | with_reducible refine iteNT ?_ | with_reducible refine iteNF ?_ | with_reducible refine iteNRf ?_ | with_reducible refine iteRf ?_ | with_reducible refine w_seqA ?_ | with_reducible refine w_seqD ?_ | with_reducible refine w_seqP ?_ | with_reducible refine w_asg ?_ | with_reducible refine w_ret ?_ | with_reducible refine w_drop ?_ | with_reducible refine w_ifs ?_ | with_reducible refine w_next ?_ | with_reducible refine w_par ?_
  | with_reducible refine w_op ?_ | with_reducible refine w_un ?_ | ((with_reducible show tVar _ _ _ _); refine' w_var ?hv ?_; (case hv => exact rfl)) | with_reducible refine w_c ?_ | with_reducible refine w_test ?_ | with_reducible refine w_tB ?_
  | with_reducible refine w_bl ?_ | with_reducible refine w_I0 ?_ | with_reducible refine w_U ?_ | with_reducible refine w_eqI ?_ | with_reducible refine w_neI ?_
  | with_reducible refine w_cons ?_ | with_reducible refine w_nil ?_ | with_reducible refine w_gn ?_ | with_reducible refine w_gsub ?_ | with_reducible refine w_and ?_ | with_reducible refine w_or ?_ | with_reducible refine w_not ?_
  | with_reducible refine w_andV ?_ | with_reducible refine w_orV ?_ | with_reducible refine w_notV ?_ | with_reducible refine w_if ?_ | with_reducible refine w_cb ?_ | with_reducible refine w_call ?_ | with_reducible refine w_lst ?_ | with_reducible refine w_tup ?_
  | with_reducible refine w_sl ?_ | with_reducible refine w_noPart ?_ | with_reducible refine w_part ?_ | with_reducible refine w_ex1 ?_ | with_reducible refine w_exb ?_ | with_reducible refine w_intB ?_ | with_reducible refine w_intI ?_ | with_reducible refine w_abs ?_)
local macro_rules | `(tactic| walk_at "rv ix") => `(tactic| ((with_reducible show rIxL _ _ _ _ _); refine' w_ixL (sq_lst ?ha) ?hb ?_; (case ha => first | exact upd_same | assumption); (case hb => first | exact rfl | assumption)))
local macro_rules | `(tactic| walk_at "rv ar") => `(tactic| first
  | (refine' w_I ?hc ?_; (case hc => first | (show (0 : Int) < _; first | assumption | decide | omega) | exact pow_c (by decide) (by decide) (by first | decide | omega) (by first | decide | omega) | exact mul_r (by first | decide | omega) (by first | decide | omega) | exact mul_l (by first | decide | omega) (by first | decide | omega) | exact divw (by first | assumption | decide | omega) (by first | assumption | decide | omega))))
local macro_rules | `(tactic| walk_at "rv go") => `(tactic| repeat first | walk_at "rv st" | walk_at "rv ix" | ((with_reducible show rI _ _ _ _ _ _); walk_at "rv ar"))
theorem rtext_ok (t b : Int) : PyData.strOk (rtext t b) = true := sok_app (sok_app (sok_app (sok_app (sok_str _) (sok_str _)) (sok_str _)) (sok_str _)) (sok_str _)
theorem Odd.same {C : Addr} {H H' : Hp} {v : V} {y : Str} (o : Odd C H v y) (e : Same H H') : Odd C H' v y := by
  cases o with
  | non => exact .non
  | bl b => exact .bl b
  | int i h => exact .int i h
  | str x h1 h2 => exact .str x h1 h2
  | tup zs h hl hz h1 h2 => exact .tup zs (e _ _ h) hl hz h1 h2
  | lst zs h hl hz h1 h2 => exact .lst zs (e _ _ h) hl hz h1 h2
  | rat t b h ht hb => exact .rat t b (h.same e) ht hb
theorem Odd.but {C : Addr} {H H' : Hp} {v : V} {y : Str} {d c : Addr} (o : Odd C H v y) (D : DrawsAt H d c) (e : But d H H') : Odd C H' v y := by
  obtain ⟨ns, pos, num, seed, q, _⟩ := D
  cases o with
  | non => exact .non
  | bl b => exact .bl b
  | int i h => exact .int i h
  | str x h1 h2 => exact .str x h1 h2
  | tup zs h hl hz h1 h2 => exact .tup zs (e _ _ (fun z => by rw [z, q] at h; cases h) h) hl hz h1 h2
  | lst zs h hl hz h1 h2 =>
    refine .lst zs (e _ _ (fun z => ?_) h) hl hz h1 h2
    rw [z, q] at h
    have g := congrArg List.length (HO.lst.inj (Option.some.inj h))
    rw [List.length_map] at g
    simp at g
    omega
  | rat t b h ht hb =>
    obtain ⟨l, dx, h⟩ := h
    exact .rat t b ⟨l, dx, e _ _ (fun z => by rw [z, q] at h; cases h) h⟩ ht hb
theorem Odd.ok {C : Addr} {H : Hp} {v : V} {y : Str} (o : Odd C H v y) : PyData.strOk y = true := by
  cases o with
  | non => exact sok_str "None"
  | bl b =>
    cases b
    · exact sok_str "False"
    · exact sok_str "True"
  | int i h => exact sok_str _
  | str x h1 h2 => exact h1
  | tup zs h hl hz h1 h2 => exact h1
  | lst zs h hl hz h1 h2 => exact h1
  | rat t b h ht hb => exact rtext_ok t b
end Rv
namespace Rv
open PySem PySem.Spec PyProof.Rows L2
local macro_rules | `(tactic| walk_at "rv st") => `(tactic| first
  | with_reducible refine iteT ?_ | with_reducible refine iteF ?_ | with_reducible refine w_nx ?_ | with_reducible refine w_yes ?_ | with_reducible refine w_rt ?_ | with_reducible refine iteNT ?_ | with_reducible refine iteNF ?_ | with_reducible refine iteNRf ?_ | with_reducible refine iteRf ?_ | with_reducible refine w_seqA ?_ | with_reducible refine w_seqD ?_ | with_reducible refine w_seqP ?_ | with_reducible refine w_asg ?_ | with_reducible refine w_ret ?_ | with_reducible refine w_drop ?_ | with_reducible refine w_ifs ?_ | with_reducible refine w_next ?_ | with_reducible refine w_par ?_
  | with_reducible refine w_op ?_ | with_reducible refine w_un ?_ | ((with_reducible show tVar _ _ _ _); refine' w_var ?hv ?_; (case hv => exact rfl)) | with_reducible refine w_c ?_ | with_reducible refine w_test ?_ | with_reducible refine w_tB ?_
  | with_reducible refine w_bl ?_ | with_reducible refine w_I0 ?_ | with_reducible refine w_U ?_ | with_reducible refine w_eqI ?_ | with_reducible refine w_neI ?_
  | with_reducible refine w_cons ?_ | with_reducible refine w_nil ?_ | with_reducible refine w_gn ?_ | with_reducible refine w_gsub ?_ | with_reducible refine w_and ?_ | with_reducible refine w_or ?_ | with_reducible refine w_not ?_
  | with_reducible refine w_andV ?_ | with_reducible refine w_orV ?_ | with_reducible refine w_notV ?_ | with_reducible refine w_if ?_ | with_reducible refine w_cb ?_ | with_reducible refine w_call ?_ | with_reducible refine w_lst ?_ | with_reducible refine w_tup ?_
  | with_reducible refine w_sl ?_ | with_reducible refine w_noPart ?_ | with_reducible refine w_part ?_ | with_reducible refine w_ex1 ?_ | with_reducible refine w_exb ?_ | with_reducible refine w_intB ?_ | with_reducible refine w_intI ?_ | with_reducible refine w_abs ?_)
local macro_rules | `(tactic| walk_at "rv ix") => `(tactic| ((with_reducible show rIxL _ _ _ _ _); refine' w_ixL (sq_lst ?ha) ?hb ?_; (case ha => first | exact upd_same | assumption); (case hb => first | exact rfl | assumption)))
local macro_rules | `(tactic| walk_at "rv ar") => `(tactic| first
  | (refine' w_I ?hc ?_; (case hc => first | (show (0 : Int) < _; first | assumption | decide | omega) | exact pow_c (by decide) (by decide) (by first | decide | omega) (by first | decide | omega) | exact mul_r (by first | decide | omega) (by first | decide | omega) | exact mul_l (by first | decide | omega) (by first | decide | omega) | exact divw (by first | assumption | decide | omega) (by first | assumption | decide | omega))))
local macro_rules | `(tactic| walk_at "rv go") => `(tactic| repeat first | walk_at "rv st" | walk_at "rv ix" | ((with_reducible show rI _ _ _ _ _ _); walk_at "rv ar"))
theorem free_same {H H' : Hp} {l : Addr} (e : Same H H') (n : H' l = none) : H l = none := by
  cases q : H l with
  | none => rfl
  | some o =>
    rw [e _ _ q] at n
    cases n
end Rv
namespace Rv
open PySem PySem.Spec PyProof.Rows L2
local macro_rules | `(tactic| walk_at "rv st") => `(tactic| first
  | with_reducible refine iteT ?_ | with_reducible refine iteF ?_ | with_reducible refine w_nx ?_ | with_reducible refine w_yes ?_ | with_reducible refine w_rt ?_ | with_reducible refine iteNT ?_ | with_reducible refine iteNF ?_ | with_reducible refine iteNRf ?_ | with_reducible refine iteRf ?_ | with_reducible refine w_seqA ?_ | with_reducible refine w_seqD ?_ | with_reducible refine w_seqP ?_ | with_reducible refine w_asg ?_ | with_reducible refine w_ret ?_ | with_reducible refine w_drop ?_ | with_reducible refine w_ifs ?_ | with_reducible refine w_next ?_ | with_reducible refine w_par ?_
  | with_reducible refine w_op ?_ | with_reducible refine w_un ?_ | ((with_reducible show tVar _ _ _ _); refine' w_var ?hv ?_; (case hv => exact rfl)) | with_reducible refine w_c ?_ | with_reducible refine w_test ?_ | with_reducible refine w_tB ?_
  | with_reducible refine w_bl ?_ | with_reducible refine w_I0 ?_ | with_reducible refine w_U ?_ | with_reducible refine w_eqI ?_ | with_reducible refine w_neI ?_
  | with_reducible refine w_cons ?_ | with_reducible refine w_nil ?_ | with_reducible refine w_gn ?_ | with_reducible refine w_gsub ?_ | with_reducible refine w_and ?_ | with_reducible refine w_or ?_ | with_reducible refine w_not ?_
  | with_reducible refine w_andV ?_ | with_reducible refine w_orV ?_ | with_reducible refine w_notV ?_ | with_reducible refine w_if ?_ | with_reducible refine w_cb ?_ | with_reducible refine w_call ?_ | with_reducible refine w_lst ?_ | with_reducible refine w_tup ?_
  | with_reducible refine w_sl ?_ | with_reducible refine w_noPart ?_ | with_reducible refine w_part ?_ | with_reducible refine w_ex1 ?_ | with_reducible refine w_exb ?_ | with_reducible refine w_intB ?_ | with_reducible refine w_intI ?_ | with_reducible refine w_abs ?_)
local macro_rules | `(tactic| walk_at "rv ix") => `(tactic| ((with_reducible show rIxL _ _ _ _ _); refine' w_ixL (sq_lst ?ha) ?hb ?_; (case ha => first | exact upd_same | assumption); (case hb => first | exact rfl | assumption)))
local macro_rules | `(tactic| walk_at "rv ar") => `(tactic| first
  | (refine' w_I ?hc ?_; (case hc => first | (show (0 : Int) < _; first | assumption | decide | omega) | exact pow_c (by decide) (by decide) (by first | decide | omega) (by first | decide | omega) | exact mul_r (by first | decide | omega) (by first | decide | omega) | exact mul_l (by first | decide | omega) (by first | decide | omega) | exact divw (by first | assumption | decide | omega) (by first | assumption | decide | omega))))
local macro_rules | `(tactic| walk_at "rv go") => `(tactic| repeat first | walk_at "rv st" | walk_at "rv ix" | ((with_reducible show rI _ _ _ _ _ _); walk_at "rv ar"))
theorem wA {K : PySem.W.Frag} {D : Ends} {i : Nat} {Wo : WX} {c : Value} {ts : Addr → Value → Option Addr → TS} {r : List Cl} {cls : Value} {d : Option Addr} {σ : L2.St} {H : Hp} (em : PySem.W.exmOne K cls c = some true)
    (q : ∀ a, H a = none → ts a cls d { nx := fun σ' H' => D.nx (σ'.set i none) H', rt := D.rt, bk := fun σ' H' => D.bk (σ'.set i none) H', ct := fun σ' H' => D.ct (σ'.set i none) H' } (σ.set i (some (.ref a))) H) : wAsL K i Wo D ((c, ts) :: r) cls d σ H := ⟨true, em, (fun _ => q), fun z => Bool.noConfusion z⟩
theorem wB {K : PySem.W.Frag} {D : Ends} {i : Nat} {Wo : WX} {c : Value} {ts : Addr → Value → Option Addr → TS} {r : List Cl} {cls : Value} {d : Option Addr} {σ : L2.St} {H : Hp} (em : PySem.W.exmOne K cls c = some false) (q : wAsL K i Wo D r cls d σ H) : wAsL K i Wo D ((c, ts) :: r) cls d σ H := ⟨false, em, (fun z => Bool.noConfusion z), fun _ => q⟩
theorem e30 : (10 : Int) ^ Int.toNat 30 = 1000000000000000000000000000000 := rfl
end Rv
namespace RvM
open PySem PySem.Spec PyProof.Rows L2 Rv
def PoolAt (H : Hp) (d : Addr) : Prop := ∃ num seed : Int, H d = some (.lst [.int num, .int seed]) ∧ 0 ≤ num ∧ 0 ≤ seed ∧ seed < 2147483647
theorem PoolAt.same {H H' : Hp} {d : Addr} (h : PoolAt H d) (e : Same H H') : PoolAt H' d := by
  obtain ⟨num, seed, h1, h2⟩ := h
  exact ⟨num, seed, e _ _ h1, h2⟩
theorem PoolAt.nd {H : Hp} {d a : Addr} (h : PoolAt H d) (n : H a = none) : a ≠ d := by
  obtain ⟨num, seed, h1, h2⟩ := h
  intro e
  rw [e, h1] at n
  cases n
local macro_rules | `(tactic| walk_at "rv st") => `(tactic| first
  | with_reducible refine iteT ?_ | with_reducible refine iteF ?_ | with_reducible refine w_nx ?_ | with_reducible refine w_yes ?_ | with_reducible refine w_rt ?_ | with_reducible refine iteNT ?_ | with_reducible refine iteNF ?_ | with_reducible refine iteNRf ?_ | with_reducible refine iteRf ?_ | with_reducible refine w_seqA ?_ | with_reducible refine w_seqD ?_ | with_reducible refine w_seqP ?_ | with_reducible refine w_asg ?_ | with_reducible refine w_ret ?_ | with_reducible refine w_drop ?_ | with_reducible refine w_ifs ?_ | with_reducible refine w_next ?_ | with_reducible refine w_par ?_
  | with_reducible refine w_op ?_ | with_reducible refine w_un ?_ | ((with_reducible show tVar _ _ _ _); refine' w_var ?hv ?_; (case hv => exact rfl)) | with_reducible refine w_c ?_ | with_reducible refine w_test ?_ | with_reducible refine w_tB ?_
  | with_reducible refine w_bl ?_ | with_reducible refine w_I0 ?_ | with_reducible refine w_U ?_ | with_reducible refine w_eqI ?_ | with_reducible refine w_neI ?_
  | with_reducible refine w_cons ?_ | with_reducible refine w_nil ?_ | with_reducible refine w_gn ?_ | with_reducible refine w_gsub ?_ | with_reducible refine w_and ?_ | with_reducible refine w_or ?_ | with_reducible refine w_not ?_
  | with_reducible refine w_andV ?_ | with_reducible refine w_orV ?_ | with_reducible refine w_notV ?_ | with_reducible refine w_if ?_ | with_reducible refine w_cb ?_ | with_reducible refine w_call ?_ | with_reducible refine w_lst ?_ | with_reducible refine w_tup ?_
  | with_reducible refine w_sl ?_ | with_reducible refine w_noPart ?_ | with_reducible refine w_part ?_ | with_reducible refine w_ex1 ?_ | with_reducible refine w_exb ?_ | with_reducible refine w_intB ?_ | with_reducible refine w_intI ?_ | with_reducible refine w_abs ?_)
local macro_rules | `(tactic| walk_at "rv ix") => `(tactic| ((with_reducible show rIxL _ _ _ _ _); refine' w_ixL (sq_lst ?ha) ?hb ?_; (case ha => first | exact upd_same | assumption); (case hb => first | exact rfl | assumption)))
local macro_rules | `(tactic| walk_at "rv ar") => `(tactic| first
  | (refine' w_I ?hc ?_; (case hc => first | (show (0 : Int) < _; first | assumption | decide | omega) | exact pow_c (by decide) (by decide) (by first | decide | omega) (by first | decide | omega) | exact mul_r (by first | decide | omega) (by first | decide | omega) | exact mul_l (by first | decide | omega) (by first | decide | omega) | exact divw (by first | assumption | decide | omega) (by first | assumption | decide | omega))))
local macro_rules | `(tactic| walk_at "rv go") => `(tactic| repeat first | walk_at "rv st" | walk_at "rv ix" | ((with_reducible show rI _ _ _ _ _ _); walk_at "rv ar"))
def iRn (n : Nat) : TI := fun _ H R => R (Itr 0 n) H
theorem w_forI {σ : L2.St} {H : Hp} {D : Ends} {tr : TA} {s1 : TS} {g : TG} (q : tr σ H fun vs H1 => ∃ j : Int, vs = [.int j] ∧ -(2 ^ 62) ≤ j ∧ j < 2 ^ 62 ∧ tFor (iRn j.toNat) g s1 D σ H1) : tFor (iRng1 tr) g s1 D σ H := q
theorem w_forRn {σ : L2.St} {H : Hp} {D : Ends} {s1 : TS} {slot n : Nat} (Pv : Nat → L2.St → Hp → Prop) (h0 : Pv 0 σ H)
    (hs : ∀ i σ' H', i < n → Pv i σ' H' → s1 { D with nx := Pv (i + 1), ct := Pv (i + 1), bk := D.nx } (σ'.set slot (some (.int (i : Int)))) H') (hd : ∀ σ' H', Pv n σ' H' → D.nx σ' H') : tFor (iRn n) (gName slot) s1 D σ H := by
  refine for_range Pv h0 (fun i σ' H' hi q => ?_) hd
  show s1 _ (σ'.set slot (some (.int ((0 : Int) + (i : Int))))) H'
  rw [Int.zero_add]
  exact hs i σ' H' hi q
def OddR (H : Hp) (v : V) : Prop := v = .non ∨ (∃ b, v = .bl b) ∨ (∃ s, v = .str s) ∨ (∃ p xs, v = .ref p ∧ H p = some (.lst xs)) ∨ (∃ p xs, v = .ref p ∧ H p = some (.tup xs)) ∨ ∃ p kvs, v = .ref p ∧ H p = some (.dK kvs)
theorem OddR.same {H H' : Hp} {v : V} (h : OddR H v) (e : Same H H') : OddR H' v := by
  rcases h with h | h | h | ⟨p, xs, h1, h2⟩ | ⟨p, xs, h1, h2⟩ | ⟨p, xs, h1, h2⟩
  · exact .inl h
  · exact .inr (.inl h)
  · exact .inr (.inr (.inl h))
  · exact .inr (.inr (.inr (.inl ⟨p, xs, h1, e _ _ h2⟩)))
  · exact .inr (.inr (.inr (.inr (.inl ⟨p, xs, h1, e _ _ h2⟩))))
  · exact .inr (.inr (.inr (.inr (.inr ⟨p, xs, h1, e _ _ h2⟩))))
end RvM
/-! str, bool, abs and unary minus of own instances. -/
namespace PySem.W
open PySem PySem.Calls PyProof.Rows Builtin
end PySem.W
namespace Rv
open PySem PySem.Spec PyProof.Rows L2
end Rv
namespace Rv
open PySem PySem.Spec PyProof.Rows L2
/-- C(..) whose __init__ may raise, at the state in which the call stands -/
def tMakeX (C : Addr) (sp : Sp) (dvs : List V) (E : L2.St → XK) (t : TA) : TE := fun σ H Q => t σ H fun vs H1 => ∀ x dx, H1 x = none → H1 dx = none → dx ≠ x →
  sp (.ref x :: (vs ++ dvs)) (upd (upd H1 dx (.own x)) x (.ins C dx [])) (fun v H2 => v = .non ∧ Q (.ref x) H2) (E σ)
section
variable {X : Cx} {CX : CXT} {k : Nat} {f C : Addr} {fd : FuncData} {ps : List Str} {sp : Sp} {E : L2.St → XK} {x : Str} {p pos : Pos} {e : Expr} {es : List Expr} {t : TA} {dvs : List V} {ds : List Value}
theorem run_makeX {pins : List (Addr × Obj)} {σ : L2.St} {H : Hp} {s : Shared} {Q : VK} {us : List Value} {vs : List V} (M : Mk X.K C f) (F : FnOk X.prog X.w X.K X.mg X.base CX k f fd ps sp) (hr : Room (k + 1) X.A) (hb : Binds X.K fd ps ds) (hd : Vals dvs ds)
    (hx : PassesAt CX X σ (E σ)) (I : Inv X pins σ H s) (r : Vals vs us)
    (h : ∀ x dx, H x = none → H dx = none → dx ≠ x → sp (.ref x :: (vs ++ dvs)) (upd (upd H dx (.own x)) x (.ins C dx [])) (fun v H2 => v = .non ∧ Q (.ref x) H2) (E σ)) :
    wpAny (model X.prog X.w) X.A (call (.ref C) us) (EP X pins σ Q) X.xe s := by
  have hq := h (s.heap.objs.size + 1) s.heap.objs.size (I.hok.fresh (Nat.le_succ _)) (I.hok.fresh (Nat.le_refl _)) (Nat.ne_of_lt (Nat.lt_succ_self _))
  have I2 := Inv.made (C := C) I
  have r2 : Vals (V.ref (s.heap.objs.size + 1) :: (vs ++ dvs)) (Value.ref (s.heap.objs.size + 1) :: (us ++ ds)) := .cons rfl (r.append hd)
  have hl : (Value.ref (s.heap.objs.size + 1) :: us ++ ds).length = ps.length := by
    have e := r2.length
    rw [F.len _ _ _ _ hq] at e
    exact e.symm
  refine wpAny_call (make_map (f := f) I.kIn M.makes M.init (beq_iff_eq.mp M.fn) (codeAny_mono (F.run _ X.stack _ _ ⟨Value.ref (s.heap.objs.size + 1) :: us, []⟩ (Value.ref (s.heap.objs.size + 1) :: (us ++ ds)) _ _ (E σ) (hr.make C us [])
    (I2.env0.make C us []) (hb _ (Value.ref (s.heap.objs.size + 1) :: us) I2.kIn hl) r2 hq) fun r s' hq' => ?_))
  cases r with
  | error e => exact hx pins _ _ e s' I2 hq'
  | ok fl =>
    cases fl with
    | ret u =>
      obtain ⟨v, H', I3, rv, ev, q3⟩ := I2.after hq'
      subst ev
      exact ⟨rv, ⟨V.ref (s.heap.objs.size + 1), H', I3, rfl, q3⟩⟩
    | next => exact False.elim hq'
    | brk => exact False.elim hq'
    | cont => exact False.elim hq'
theorem pe_calmX (c : CalM X.prog X.w X.K X.mg X.base CX k x C ps sp dvs) (hr : Room (k + 1) X.A) (hg : Gl X x) (hx : ∀ σ, PassesAt CX X σ (E σ))
    (ha : PA X (e :: es) t) (hdb : (x == ("__debug__" : Str)) = false := by decide) (he : starEach (e :: es) X.env = (false, eval e X.env) :: starEach es X.env := by rfl) (hpl : (backTo pos (starEach es X.env)).any (·.1) = false := by rfl) :
    PE X (.Call (.Name x p) (e :: es) [] pos) (tMakeX C sp dvs E t) := by
  obtain ⟨f, fd, ds, F, M, hm, hb, hd⟩ := c.ex
  refine ⟨fun pins s σ H Q I h => ?_⟩
  refine wpAny_Call_Name_kw (ld_glob I hg hm ?_ hdb)
  refine PySem.W.callWith_K (h₀ := X.base) I.ok.mod.kin M.kp (thn (ha.run pos pins s σ H _ I h) fun us s1 ⟨vs, H1, I1, r, q⟩ => ⟨I1.kIn, ?_⟩) he hpl
  exact run_makeX M F hr hb hd (hx σ) I1 r q
end
theorem w_makeX {sp : Sp} {dvs : List V} {E : L2.St → XK} {tr : TA} {C : Addr} {σ : L2.St} {H : Hp} {Q : VK} (q : tr σ H fun vs H1 => ∀ x dx, H1 x = none → H1 dx = none → dx ≠ x → sp (.ref x :: (vs ++ dvs)) (upd (upd H1 dx (.own x)) x (.ins C dx [])) (fun v H2 => v = .non ∧ Q (.ref x) H2) (E σ)) : tMakeX C sp dvs E tr σ H Q := q
local macro_rules | `(tactic| walk_at "rv st") => `(tactic| first
  | with_reducible refine iteT ?_ | with_reducible refine iteF ?_ | with_reducible refine w_nx ?_ | with_reducible refine w_yes ?_ | with_reducible refine w_rt ?_ | with_reducible refine iteNT ?_ | with_reducible refine iteNF ?_ | with_reducible refine iteNRf ?_ | with_reducible refine iteRf ?_ | with_reducible refine w_seqA ?_ | with_reducible refine w_seqD ?_ | with_reducible refine w_seqP ?_ | with_reducible refine w_asg ?_ | with_reducible refine w_ret ?_ | with_reducible refine w_drop ?_ | with_reducible refine w_ifs ?_ | with_reducible refine w_next ?_ | with_reducible refine w_par ?_
  | with_reducible refine w_op ?_ | with_reducible refine w_un ?_ | ((with_reducible show tVar _ _ _ _); refine' w_var ?hv ?_; (case hv => exact rfl)) | with_reducible refine w_c ?_ | with_reducible refine w_test ?_ | with_reducible refine w_tB ?_
  | with_reducible refine w_bl ?_ | with_reducible refine w_I0 ?_ | with_reducible refine w_U ?_ | with_reducible refine w_eqI ?_ | with_reducible refine w_neI ?_
  | with_reducible refine w_cons ?_ | with_reducible refine w_nil ?_ | with_reducible refine w_gn ?_ | with_reducible refine w_gsub ?_ | with_reducible refine w_and ?_ | with_reducible refine w_or ?_ | with_reducible refine w_not ?_
  | with_reducible refine w_andV ?_ | with_reducible refine w_orV ?_ | with_reducible refine w_notV ?_ | with_reducible refine w_if ?_ | with_reducible refine w_cb ?_ | with_reducible refine w_call ?_ | with_reducible refine w_lst ?_ | with_reducible refine w_tup ?_
  | with_reducible refine w_sl ?_ | with_reducible refine w_noPart ?_ | with_reducible refine w_part ?_ | with_reducible refine w_ex1 ?_ | with_reducible refine w_exb ?_ | with_reducible refine w_intB ?_ | with_reducible refine w_intI ?_ | with_reducible refine w_abs ?_)
local macro_rules | `(tactic| walk_at "rv ix") => `(tactic| ((with_reducible show rIxL _ _ _ _ _); refine' w_ixL (sq_lst ?ha) ?hb ?_; (case ha => first | exact upd_same | assumption); (case hb => first | exact rfl | assumption)))
local macro_rules | `(tactic| walk_at "rv ar") => `(tactic| first
  | (refine' w_I ?hc ?_; (case hc => first | (show (0 : Int) < _; first | assumption | decide | omega) | exact pow_c (by decide) (by decide) (by first | decide | omega) (by first | decide | omega) | exact mul_r (by first | decide | omega) (by first | decide | omega) | exact mul_l (by first | decide | omega) (by first | decide | omega) | exact divw (by first | assumption | decide | omega) (by first | assumption | decide | omega))))
local macro_rules | `(tactic| walk_at "rv go") => `(tactic| repeat first | walk_at "rv st" | walk_at "rv ix" | ((with_reducible show rI _ _ _ _ _ _); walk_at "rv ar"))
theorem w_neR {x y : V} {H : Hp} {Q : VK} (h : scal x y = true) (e : x = y) (q : Q (.bl false) H) : rNe x y H Q := ⟨h, by
  rw [decide_eq_true e]
  exact q⟩
theorem w_eqR {x y : V} {H : Hp} {Q : VK} (h : scal x y = true) (e : x = y) (q : Q (.bl true) H) : rEq x y H Q := ⟨h, by
  rw [decide_eq_true e]
  exact q⟩
/-- the values that are no whole numbers -/
def Od1 (C : Addr) (H : Hp) (x : V) : Prop := ∃ y, Odd C H x y ∧ isI x = false
theorem Od1.same {C : Addr} {H H' : Hp} {x : V} (h : Od1 C H x) (e : Same H H') : Od1 C H' x := by
  obtain ⟨y, h1, h2⟩ := h
  exact ⟨y, h1.same e, h2⟩
end Rv
/-! repr of data with dicts in it. -/
namespace Rv
open PySem PySem.Spec PyProof.Rows L2
def SysD (K : PySem.W.Frag) : Prop := ∃ o es n, List.lookup sysModules K = some o ∧ o.data = .dict es n
theorem sys_of {K : PySem.W.Frag} (h : sysB K = true) : SysD K := by
  unfold sysB at h
  split at h
  · rename_i o e
    split at h
    · rename_i es n d
      exact ⟨o, es, n, e, d⟩
    · cases h
  · cases h
section
variable {X : Cx} {pins : List (Addr × Obj)} {σ : L2.St} {H : Hp} {s : Shared}
mutual
theorem Dq.reads (I : Inv X pins σ H s) (S : SysD X.K) : ∀ (d : PyData) (v : V) (u : Value), Dq X.K H v d → RelV v u → ∃ as, Reads s.heap u d as ∧ sysModules ∉ as
  | .none, _, _, h, r => by
    cases h
    cases r
    exact ⟨_, Reads.none, by simp⟩
  | .bool b, _, _, h, r => by
    cases h
    cases r
    exact ⟨_, Reads.bool b, by simp⟩
  | .int i, _, _, h, r => by
    cases h
    obtain ⟨t, rfl⟩ := r
    exact ⟨_, Reads.int i t, by simp⟩
  | .str x, _, _, h, r => by
    cases h
    obtain ⟨t, rfl⟩ := r
    exact ⟨_, Reads.str x t, by simp⟩
  | .list ds, _, _, h, r => by
    cases h with
    | @lst a xs _ hs ha =>
      cases r
      obtain ⟨its, rv, ⟨o, n, ho, hc, _, hd⟩, _⟩ := I.list hs
      obtain ⟨as, hr, hn⟩ := Dq.readsAll I S ds _ its ha rv
      refine ⟨_, Reads.list ho hc hd hr, fun m => ?_⟩
      rcases List.mem_cons.mp m with e | m
      · obtain ⟨o', es, n', k1, k2⟩ := S
        have := I.kIn _ _ k1
        rw [e, ho] at this
        cases this
        rw [hd] at k2
        cases k2
      · exact hn m
  | .tuple ds, _, _, h, r => by
    cases h with
    | tup hs ha =>
      cases r
      obtain ⟨its, rv, ⟨o, ho, hc, n, hd⟩, _⟩ := I.tuple hs
      obtain ⟨as, hr, hn⟩ := Dq.readsAll I S ds _ its ha rv
      exact ⟨_, Reads.tuple ho hc hd hr, hn⟩
  | .dict ps, _, _, h, r => by
    cases h with
    | @dic0 a ha =>
      cases r
      obtain ⟨_, ns, vs, kv, o, es, ep, h1, h2, h3, h4, h5, h6⟩ := I.hok a _ ha
      cases kv
      have he : es.toList = [] := by
        cases h7 : es.toList with
        | nil => rfl
        | cons x l =>
          rw [h7] at h5
          cases h5
      refine ⟨a :: [] ++ [], .dict h1 h2.1 h3 (by rw [he]; exact .nil) (by rw [he]; exact .nil), fun m => ?_⟩
      have m : sysModules = a := by simpa using m
      rw [← m] at ns
      exact Bool.noConfusion (show true = false from ns)
    | @dic1 a i j ha =>
      cases r
      obtain ⟨_, ns, vs, kv, o, es, ep, h1, h2, h3, h4, h5, h6⟩ := I.hok a _ ha
      cases kv with
      | @cons p q _ qs e1 e2 =>
        cases e2
        obtain ⟨ek, rv⟩ := e1
        obtain ⟨k, v⟩ := q
        cases (show Sum.inl i = k from ek)
        obtain ⟨t2, rfl⟩ := (show ∃ t, v = Value.int j t from rv)
        generalize hl : es.toList = el at h5
        cases h5 with
        | @cons e _ _ _ k1 k2 k3 =>
          cases k3
          rcases keyIs_shape (k := .inl i) (v := e.key) k1 with ⟨i', t', ei, ek'⟩ | ⟨x, t', ei, _⟩
          · cases ei
            refine ⟨a :: ([] ++ []) ++ ([] ++ []), .dict h1 h2.1 h3 ?_ ?_, fun m => ?_⟩
            · rw [hl]
              show ReadsAll _ [e.key] [PyData.int i] _
              rw [ek']
              exact .cons (.int i t') .nil
            · rw [hl]
              show ReadsAll _ [e.val] [PyData.int j] _
              rw [k2]
              exact .cons (.int j t2) .nil
            · have m : sysModules = a := by simpa using m
              rw [← m] at ns
              exact Bool.noConfusion (show true = false from ns)
          · cases ei
theorem Dq.readsAll (I : Inv X pins σ H s) (S : SysD X.K) : ∀ (ds : List PyData) (vs : List V) (us : List Value), DqAll X.K H vs ds → Vals vs us → ∃ as, ReadsAll s.heap us ds as ∧ sysModules ∉ as
  | [], _, _, h, r => by
    cases h
    cases r
    exact ⟨_, ReadsAll.nil, by simp⟩
  | d :: ds, _, _, h, r => by
    cases h with
    | cons h1 h2 =>
      cases r with
      | cons r1 r2 =>
        obtain ⟨as, q1, n1⟩ := Dq.reads I S d _ _ h1 r1
        obtain ⟨bs, q2, n2⟩ := Dq.readsAll I S ds _ _ h2 r2
        exact ⟨_, ReadsAll.cons q1 q2, fun m => (List.mem_append.mp m).elim n1 n2⟩
end
end
/-- repr of a value with dicts in it -/
def cReprD (K : PySem.W.Frag) : List V → Hp → VK → Prop := fun xs H Q => ∃ a d, xs = [.ref a] ∧ SysD K ∧ Dq K H (.ref a) d ∧ d.showable = true ∧ d.depth ≤ 10 ∧ d.shown.length ≤ sizeLine ∧ Q (.str d.shown) H
theorem call_reprD {X : Cx} (hg : X.A.guards = some []) (hr : Room 1 X.A) : CallR X (.builtin "repr") (cReprD X.K) := by
  intro pins s σ H xs us Q I r h
  obtain ⟨a, d, rfl, S, hd, sh, dp, sz, q⟩ := h
  obtain ⟨u, rfl, ru⟩ := vals1 r
  cases (show u = Value.ref a from ru)
  obtain ⟨as, rd, nm⟩ := Dq.reads I S d _ _ hd rfl
  have hu := hr.un
  exact PySem.repr_of_reads' rd sh (fun _ => nm) hg (by omega) (fun b o e => e) (fun h' u tk hk => ⟨.str _, H, I.kept hk, ⟨_, rfl⟩, q⟩) sz
end Rv
namespace Rv
open PySem PySem.Spec PyProof.Rows L2
theorem RowV.same {K : PySem.W.Frag} {H H' : Hp} {v : V} {o : Option (List V)} (h : RowV K H v o) (e : Same H H') : RowV K H' v o := by
  cases h with
  | row h => exact .row (h.same e)
  | other ty k => exact .other (ty_same ty e) k
def inL (lo hi : Int) : Option (List V) → Bool
  | none => false
  | some xs => decide (lo ≤ (xs.length : Int)) && decide ((xs.length : Int) ≤ hi)
/-- the exception's class -/
structure XI (K : PySem.W.Frag) (C : Addr) : Prop where
  ox : OexG K C "ValueError" "ValueError.__new__" "ValueError.__init__" bm_ValueError
  no : PySem.W.findIn K (.ref C) "index" = some none
def RzI (H : Hp) (C : Addr) (v : V) (E : XK) : Prop := ∀ d H', H d = none → Same H H' → H' d = some (.xd [("index", v)]) → E (.ref C) (some d) H'
theorem RzI.same {H H1 : Hp} {C : Addr} {v : V} {E : XK} (h : RzI H C v E) (e : Same H H1) : RzI H1 C v E := fun d H' nd e1 hd => h d H' (free_same e nd) (e.trans e1) hd
theorem exc_newI {K : PySem.W.Frag} {C : Addr} {H : Hp} {E : XK} {v : V} (X : XI K C) (k : RzI H C v E) :
    [v].length ≤ 1000 ∧ ∀ a, H a = none → spExc K C "ValueError" "ValueError.__new__" "ValueError.__init__" bm_ValueError "index" (.ref a :: ([v] ++ [])) (upd H a (exo a C none))
      (fun v H2 => v = .non ∧ ∃ (d : Addr) (fs : List (Str × V)), H2 a = some (exo a C (some d)) ∧ H2 d = some (exd d fs) ∧ H d = none ∧ E (.ref C) (some d) (upd (del H2 a) d (.xd fs))) (fun _ _ _ => False) :=
  exc_new X.ox X.no fun d H' nd e hd => k d H' nd e hd
theorem Items.same {K : PySem.W.Frag} {H H' : Hp} {o : Option (List V)} (h : Items K H o) (e : Same H H') : Items K H' o := fun xs eo x hx => (h xs eo x hx).same e
def spRowX (K : PySem.W.Frag) : Sp := fun vs H Q _ => ∃ v lo hi o, vs = [v, .int lo, .int hi] ∧ RowV K H v o ∧ ∀ H', Same H H' → Q (.bl (inL lo hi o)) H'
def spChkHX (K : PySem.W.Frag) (CI : Addr) : Sp := fun vs H Q E => ∃ v o, vs = [v] ∧ XI K CI ∧ RowV K H v o ∧ Items K H o ∧ (∀ z, badR 1 60 (-BigG) BigG o = some z → RzI H CI z E) ∧ (badR 1 60 (-BigG) BigG o = none → ∀ H', Same H H' → Q .non H')
def spChkWX (K : PySem.W.Frag) (CI : Addr) : Sp := fun vs H Q E => ∃ v m o, vs = [v, .int m] ∧ XI K CI ∧ RowV K H v o ∧ Items K H o ∧ (∀ z, badR m m 1 BigG o = some z → RzI H CI z E) ∧ (badR m m 1 BigG o = none → ∀ H', Same H H' → Q .non H')
def wBad (w : V) (n : Nat) (ow : Option (List V)) : Option V := if w = .non then none else badR n n 1 BigG ow
def spInitX (K : PySem.W.Frag) (C CH CW : Addr) : Sp := fun vs H Q E => ∃ p dx v w o ow, vs = [.ref p, v, w] ∧ PCls K C ∧ XI K CH ∧ XI K CW ∧ H p = some (.ins C dx []) ∧ RowV K H v o ∧ Items K H o ∧ RowV K H w ow ∧ Items K H ow ∧
  (∀ z, badR 1 60 (-BigG) BigG o = some z → RzI H CH z E) ∧ ∀ xs, o = some xs → badR 1 60 (-BigG) BigG o = none → (∀ z, wBad w xs.length ow = some z → RzI H CW z E) ∧ (wBad w xs.length ow = none → ∀ H', (∀ b o, b ≠ p → H b = some o → H' b = some o) → Q .non H')
def dMade (o : Option (List V)) (w : V) (ow : Option (List V)) : PyData :=
  match badR 1 60 (-BigG) BigG o with
  | some z => .tuple [.str "heights", dIx z, .bool true, .bool true, .bool false]
  | none => match wBad w ((o.getD []).length) ow with
    | some z => .tuple [.str "widths", dIx z, .bool true, .bool true, .bool false]
    | none => .tuple []
structure XM2 (K : PySem.W.Frag) (CH CW CE : Addr) : Prop where
  xh : XI K CH
  xw : XI K CW
  hh : PySem.W.exmOne K (.ref CH) (.ref CH) = some true
  wh : PySem.W.exmOne K (.ref CW) (.ref CH) = some false
  ww : PySem.W.exmOne K (.ref CW) (.ref CW) = some true
  hR : PySem.W.kitOne K (.ref CH) (.ref CE) = some true
  wR : PySem.W.kitOne K (.ref CW) (.ref CE) = some true
  hV : PySem.W.kitOne K (.ref CH) (.type "ValueError") = some true
  wV : PySem.W.kitOne K (.ref CW) (.type "ValueError") = some true
  hW : PySem.W.kitOne K (.ref CH) (.ref CW) = some false
  wH : PySem.W.kitOne K (.ref CW) (.ref CH) = some false
theorem xm2_of {K : PySem.W.Frag} (h1 : oxB K "InvalidProfile" "ValueError.__new__" bm_ValueError = true) (n1 : decide (PySem.W.findIn K (.ref (He.ga K "InvalidProfile")) "index" = some none) = true)
    (h2 : oxB K "InvalidWidths" "ValueError.__new__" bm_ValueError = true) (n2 : decide (PySem.W.findIn K (.ref (He.ga K "InvalidWidths")) "index" = some none) = true) (h : xm2B K = true) : XM2 K (He.ga K "InvalidProfile") (He.ga K "InvalidWidths") (He.ga K "RainError") := by
  obtain ⟨g1, h⟩ := He.ba h
  obtain ⟨g2, h⟩ := He.ba h
  obtain ⟨g3, h⟩ := He.ba h
  obtain ⟨g4, h⟩ := He.ba h
  obtain ⟨g5, h⟩ := He.ba h
  obtain ⟨g6, h⟩ := He.ba h
  obtain ⟨g7, h⟩ := He.ba h
  obtain ⟨g8, g9⟩ := He.ba h
  exact ⟨⟨ox_ok PySem.F.excBase_ValueError mok_ve h1, of_decide_eq_true n1⟩, ⟨ox_ok PySem.F.excBase_ValueError mok_ve h2, of_decide_eq_true n2⟩, of_decide_eq_true g1, of_decide_eq_true g2, of_decide_eq_true g3, of_decide_eq_true g4, of_decide_eq_true g5, of_decide_eq_true g6, of_decide_eq_true g7, of_decide_eq_true g8, of_decide_eq_true g9⟩
def spMade12 (K : PySem.W.Frag) (C CH CW CE : Addr) : Sp := fun vs H Q _ => ∃ v w o ow, vs = [v, w] ∧ PCls K C ∧ XM2 K CH CW CE ∧ RowV K H v o ∧ Items K H o ∧ RowV K H w ow ∧ Items K H ow ∧ ∀ r H', Same H H' → Dp K H' (.ref r) (dMade o w ow) → Q (.ref r) H'
/-- it stays what it is while only objects at S change -/
theorem OdF.step {lo : Int} {H H' : Hp} {v : V} {S : Addr → Prop} (h : OdF lo H v) (hv : ∀ a, v = .ref a → ¬ S a) (e : ∀ c o, ¬ S c → H c = some o → H' c = some o) : OdF lo H' v := by
  cases h with
  | non => exact .non
  | bl b => exact .bl b
  | s3 => exact .s3
  | s0 => exact .s0
  | int i h s => exact .int i h s
  | t0 h => exact .t0 (e _ _ (hv _ rfl) h)
  | l0 h => exact .l0 (e _ _ (hv _ rfl) h)
  | t1 h => exact .t1 (e _ _ (hv _ rfl) h)
  | d0 h => exact .d0 (e _ _ (hv _ rfl) h)
def spOdd12 (K : PySem.W.Frag) : Sp := fun vs H Q _ => ∃ d c lo, vs = [.ref d, .int lo] ∧ DrawsAt H d c ∧ (lo = -BigG ∨ lo = 1) ∧ ∀ v H', But d H H' → DrawsAt H' d c → OdF lo H' v → (∀ a, v = .ref a → H a = none) → Q v H'
def spSpoilt12 (K : PySem.W.Frag) : Sp := fun vs H Q _ => ∃ d c ra xs lo, vs = [.ref d, .ref ra, .int lo] ∧ DrawsAt H d c ∧ ra ≠ d ∧ H ra = some (.lst ((xs : List Int).map V.int)) ∧ 1 ≤ xs.length ∧ xs.length ≤ 60 ∧ (lo = -BigG ∨ lo = 1) ∧
  ∀ t ya pa ys ps H', But d H H' → DrawsAt H' d c → t ≠ d → ya ≠ d → pa ≠ d → H' t = some (.tup [.ref ya, .ref pa]) → H' ya = some (.lst ys) → H' pa = some (.lst ((ps : List Int).map V.int)) → Spo lo H' xs ys ps → (∀ x ∈ ys, ∀ a, x = .ref a → a ≠ d) → Q (.ref t) H'
def spFirst12 (K : PySem.W.Frag) : Sp := fun vs H Q _ => ∃ (a : Addr) (ps : List Int), vs = [.ref a] ∧ H a = some (.lst (ps.map V.int)) ∧ ps ≠ [] ∧ ps.length ≤ 100 ∧ ∀ m, m ∈ ps → (∀ p ∈ ps, m ≤ p) → Q (.int m) H
def spWhole12 (K : PySem.W.Frag) : Sp := fun vs H Q _ => ∃ d c ra xs lo hi, vs = [.ref d, .ref ra, .int lo, .int hi] ∧ DrawsAt H d c ∧ ra ≠ d ∧ H ra = some (.lst ((xs : List Int).map V.int)) ∧ 1 ≤ xs.length ∧ (∀ x ∈ xs, x.natAbs < 10 ^ 35) ∧ 1 ≤ lo ∧ lo ≤ hi ∧ hi ≤ 60 ∧
  ∀ v H', But d H H' → DrawsAt H' d c → WhF lo hi H' v → (∀ a, v = .ref a → a ≠ d) → Q v H'
def spLaw12 (K : PySem.W.Frag) (C CH CW CE : Addr) : Sp := fun vs H Q _ => ∃ (a : Addr) (ns : List Int), vs = [.ref a] ∧ SqL K H a (ns.map V.int) ∧ PCls K C ∧ XM2 K CH CW CE ∧ SysD K ∧ ∀ H', Q (.bl true) H'
def t_InvalidProfile___init__ (K : PySem.W.Frag) (C_InvalidProfile : Addr) : TS :=
  (tSeq (tDrop (tBaseI K C_InvalidProfile "ValueError" "ValueError.__new__" "ValueError.__init__" bm_ValueError (tCons (tVar 0) (tCons (tC (.str "not valid heights of a profile")) tNil))))
    (tFst K C_InvalidProfile "ValueError" "ValueError.__new__" "ValueError.__init__" bm_ValueError "index" (tVar 0) (tVar 1)))
def t_InvalidWidths___init__ (K : PySem.W.Frag) (C_InvalidWidths : Addr) : TS :=
  (tSeq (tDrop (tBaseI K C_InvalidWidths "ValueError" "ValueError.__new__" "ValueError.__init__" bm_ValueError (tCons (tVar 0) (tCons (tC (.str "not valid widths of a profile")) tNil))))
    (tFst K C_InvalidWidths "ValueError" "ValueError.__new__" "ValueError.__init__" bm_ValueError "index" (tVar 0) (tVar 1)))
def t_is_rowX12 (K : PySem.W.Frag) : TS :=
  (tRet (tAndV (tCB (rIsiT K) (tCons (tVar 0) (tCons (tTup (tCons (tC (.ty "list")) (tCons (tC (.ty "tuple")) tNil))) tNil))) (tChain oLe oLe (tVar 1) (tCB (cLen K) (tCons (tVar 0) tNil)) (tVar 2))))
def t_check_heightsX (K : PySem.W.Frag) (C_InvalidProfile : Addr) (E : XK) : TS :=
  (tSeq (tIfS (tNot (tB (tCall (spRowX K) [] E0 (tCons (tVar 0) (tCons (tC (.int 1)) (tCons (tC (.int 60)) tNil)))))) (tRaise (tMkO C_InvalidProfile (spExc K C_InvalidProfile "ValueError" "ValueError.__new__" "ValueError.__init__" bm_ValueError "index") [] (tCons (tC .non) tNil)) E) tNext)
    (tSeq (tAsg (tCall (spOutside K) [] E0 (tCons (tVar 0) (tCons (tUn (rU fun i => .int (-i)) (tC (.int 1000000000000000000000000000000))) (tCons (tC (.int 1000000000000000000000000000000)) tNil)))) (gName 1))
    (tIfS (tTest (tOp oNotN (tVar 1) (tC .non))) (tRaise (tMkO C_InvalidProfile (spExc K C_InvalidProfile "ValueError" "ValueError.__new__" "ValueError.__init__" bm_ValueError "index") [] (tCons (tVar 1) tNil)) E) tNext)))
def t_check_widthsX (K : PySem.W.Frag) (C_InvalidWidths : Addr) (E : XK) : TS :=
  (tSeq (tIfS (tNot (tB (tCall (spRowX K) [] E0 (tCons (tVar 0) (tCons (tVar 1) (tCons (tVar 1) tNil)))))) (tRaise (tMkO C_InvalidWidths (spExc K C_InvalidWidths "ValueError" "ValueError.__new__" "ValueError.__init__" bm_ValueError "index") [] (tCons (tC .non) tNil)) E) tNext)
    (tSeq (tAsg (tCall (spOutside K) [] E0 (tCons (tVar 0) (tCons (tC (.int 1)) (tCons (tC (.int 1000000000000000000000000000000)) tNil)))) (gName 2))
    (tIfS (tTest (tOp oNotN (tVar 2) (tC .non))) (tRaise (tMkO C_InvalidWidths (spExc K C_InvalidWidths "ValueError" "ValueError.__new__" "ValueError.__init__" bm_ValueError "index") [] (tCons (tVar 2) tNil)) E) tNext)))
def t_Profile___init__X (K : PySem.W.Frag) (C_Profile : Addr) (C_InvalidProfile : Addr) (C_InvalidWidths : Addr) (E : XK) : TS :=
  (tSeq (tDrop (tCall (spChkHX K C_InvalidProfile) [] E (tCons (tVar 1) tNil)))
    (tSeq (tIfS (tTest (tOp oIsN (tVar 2) (tC .non))) (tAsg (tOp rRep (tLst (tCons (tC (.int 1)) tNil)) (tCB (cLen K) (tCons (tVar 1) tNil))) (gName 2)) tNext)
    (tSeq (tDrop (tCall (spChkWX K C_InvalidWidths) [] E (tCons (tVar 2) (tCons (tCB (cLen K) (tCons (tVar 1) tNil)) tNil))))
    (tSeq (sFld K (tVar 0) (tCB (cTuple K) (tCons (tVar 1) tNil)) "column_heights")
    (sFld K (tVar 0) (tCB (cTuple K) (tCons (tVar 2) tNil)) "column_widths")))))
def t__law_made12 (K : PySem.W.Frag) (C_Profile : Addr) (C_InvalidProfile : Addr) (C_InvalidWidths : Addr) (C_RainError : Addr) : TS :=
  (tSeq (tAsg (tTup tNil) (gName 2))
    (tSeq (tTryL K 3 (fun W => (tDrop (tMakeX C_Profile (spInitX K C_Profile C_InvalidProfile C_InvalidWidths) [] (WE W) (tCons (tVar 0) (tCons (tVar 1) tNil))))) [(.ref C_InvalidProfile, fun xa xcls xd => (tAsg (tTup (tCons (tC (.str "heights")) (tCons (tXf xa xcls xd C_InvalidProfile "index" (tVar 3)) (tCons (tCB (rIsD K C_InvalidProfile xa xcls xd) (tCons (tVar 3) (tCons (tC (.ref C_RainError)) tNil))) (tCons (tCB (rIsD K C_InvalidProfile xa xcls xd) (tCons (tVar 3) (tCons (tC (.ty "ValueError")) tNil))) (tCons (tCB (rIsD K C_InvalidProfile xa xcls xd) (tCons (tVar 3) (tCons (tC (.ref C_InvalidWidths)) tNil))) tNil)))))) (gName 2))), (.ref C_InvalidWidths, fun xa xcls xd => (tAsg (tTup (tCons (tC (.str "widths")) (tCons (tXf xa xcls xd C_InvalidWidths "index" (tVar 3)) (tCons (tCB (rIsD K C_InvalidWidths xa xcls xd) (tCons (tVar 3) (tCons (tC (.ref C_RainError)) tNil))) (tCons (tCB (rIsD K C_InvalidWidths xa xcls xd) (tCons (tVar 3) (tCons (tC (.ty "ValueError")) tNil))) (tCons (tCB (rIsD K C_InvalidWidths xa xcls xd) (tCons (tVar 3) (tCons (tC (.ref C_InvalidProfile)) tNil))) tNil)))))) (gName 2)))] (fun _ _ _ _ => False))
    (tRet (tVar 2))))
def t__law_odd12 (K : PySem.W.Frag) : TS :=
  (tSeq (tAsg (tOp oAdd (tOp oAdd (tOp oPow (tC (.int 10)) (tC (.int 30))) (tC (.int 1))) (tCall (spDraw K) [] E0 (tCons (tVar 0) (tCons (tOp oPow (tC (.int 10)) (tC (.int 9))) tNil)))) (gName 2))
    (tSeq (tAsg (tLst (tCons (tC .non) (tCons (tC (.bl true)) (tCons (tC (.bl false)) (tCons (tC (.str "3")) (tCons (tC (.str "")) (tCons (tTup tNil) (tCons (tLst tNil) (tCons (tTup (tCons (tC (.int 1)) tNil)) (tCons tDNewK (tCons (tVar 2) (tCons (tOp oSub (tC (.int 0)) (tVar 2)) (tCons (tOp oSub (tOp oSub (tVar 1) (tC (.int 1))) (tCall (spDraw K) [] E0 (tCons (tVar 0) (tCons (tC (.int 9)) tNil)))) tNil))))))))))))) (gName 3))
    (tRet (tOp (rIxL K) (tVar 3) (tCall (spDraw K) [] E0 (tCons (tVar 0) (tCons (tC (.int 12)) tNil)))))))
def t__law_spoilt12 (K : PySem.W.Frag) : TS :=
  (tSeq (tAsg (tLst tNil) (gName 3))
    (tSeq (tAsg (tCB (cList K) (tCons (tVar 1) tNil)) (gName 4))
    (tSeq (tFor (iRng1 (tCons (tCall (spDraw K) [] E0 (tCons (tVar 0) (tCons (tC (.int 3)) tNil))) tNil)) (gName 5) (tSeq (tAsg (tCall (spDraw K) [] E0 (tCons (tVar 0) (tCons (tCB (cLen K) (tCons (tVar 1) tNil)) tNil))) (gName 6))
    (tSeq (tAsg (tCall (spOdd12 K) [] E0 (tCons (tVar 0) (tCons (tVar 2) tNil))) (gSub (tVar 4) (tVar 6) rSetL))
    (tDrop (tBM K "list" rAppend (tVar 3) (tCons (tVar 6) tNil))))))
    (tRet (tTup (tCons (tVar 4) (tCons (tVar 3) tNil)))))))
def t__law_first12 (K : PySem.W.Frag) : TS :=
  (tSeq (tAsg (tOp (rIxL K) (tVar 0) (tC (.int 0))) (gName 1))
    (tSeq (tFor (iList K (tVar 0)) (gName 2) (tIfS (tTest (tOp oLt (tVar 2) (tVar 1))) (tAsg (tVar 2) (gName 1)) tNext))
    (tRet (tVar 1))))
def t__law_whole12 (K : PySem.W.Frag) : TS :=
  (tSeq (tAsg (tLc (iRng1 (tCons (tOp oAdd (tOp oAdd (tVar 3) (tC (.int 1))) (tCall (spDraw K) [] E0 (tCons (tVar 0) (tCons (tC (.int 9)) tNil)))) tNil)) (gName 6) tYes (tOp (rIxL K) (tVar 1) (tC (.int 0))) [6]) (gName 4))
    (tSeq (tAsg (tLc (iRng1 (tCons (tCall (spDraw K) [] E0 (tCons (tVar 0) (tCons (tVar 2) tNil))) tNil)) (gName 6) tYes (tOp (rIxL K) (tVar 1) (tC (.int 0))) [6]) (gName 5))
    (tRet (tOp (rIxL K) (tLst (tCons (tC (.int 7)) (tCons (tC (.bl true)) (tCons (tC (.bl false)) (tCons (tC (.str "11")) (tCons (tC (.str "")) (tCons tDNewK (tCons (tDisp [((tC (.int 0)), (tC (.int 1)))]) (tCons (tVar 4) (tCons (tCB (cTuple K) (tCons (tVar 4) tNil)) (tCons (tVar 5) (tCons (tCB (cTuple K) (tCons (tVar 5) tNil)) tNil)))))))))))) (tCall (spDraw K) [] E0 (tCons (tVar 0) (tCons (tC (.int 11)) tNil)))))))
def t_law12 (K : PySem.W.Frag) (C_Profile : Addr) (C_InvalidProfile : Addr) (C_InvalidWidths : Addr) (C_RainError : Addr) : TS :=
  (tSeq (tAsg (tCall (spDraws K) [] E0 (tCons (tVar 0) tNil)) (gName 1))
    (tSeq (tAsg (tCall (spHeights K) [] E0 (tCons (tVar 1) tNil)) (gName 2))
    (tSeq (tAsg (tCB (cLen K) (tCons (tVar 2) tNil)) (gName 3))
    (tSeq (tAsg (tCall (spWidths K) [] E0 (tCons (tVar 1) (tCons (tVar 3) tNil))) (gName 4))
    (tSeq (tAsg (tCall (spSpoilt12 K) [] E0 (tCons (tVar 1) (tCons (tVar 2) (tCons (tOp oSub (tC (.int 0)) (tOp oPow (tC (.int 10)) (tC (.int 30)))) tNil)))) (gTup K 2 (gCons (gName 5) (gCons (gName 6) gNil))))
    (tSeq (tAsg (tCall (spSpoilt12 K) [] E0 (tCons (tVar 1) (tCons (tVar 4) (tCons (tC (.int 1)) tNil)))) (gTup K 2 (gCons (gName 7) (gCons (gName 8) gNil))))
    (tSeq (tAsg (tTup tNil) (gName 9))
    (tSeq (tIfS (tTest (tOp (rNeD K) (tVar 8) (tLst tNil))) (tAsg (tTup (tCons (tC (.str "widths")) (tCons (tCall (spFirst12 K) [] E0 (tCons (tVar 8) tNil)) (tCons (tC (.bl true)) (tCons (tC (.bl true)) (tCons (tC (.bl false)) tNil)))))) (gName 9)) tNext)
    (tSeq (tIfS (tTest (tOp rEq (tCall (spDraw K) [] E0 (tCons (tVar 1) (tCons (tC (.int 5)) tNil))) (tC (.int 4)))) (tSeq (tAsg (tCall (spWhole12 K) [] E0 (tCons (tVar 1) (tCons (tVar 4) (tCons (tVar 3) (tCons (tVar 3) tNil))))) (gName 7))
    (tAsg (tTup (tCons (tC (.str "widths")) (tCons (tC .non) (tCons (tC (.bl true)) (tCons (tC (.bl true)) (tCons (tC (.bl false)) tNil)))))) (gName 9))) tNext)
    (tSeq (tIfS (tTest (tOp (rNeD K) (tVar 6) (tLst tNil))) (tAsg (tTup (tCons (tC (.str "heights")) (tCons (tCall (spFirst12 K) [] E0 (tCons (tVar 6) tNil)) (tCons (tC (.bl true)) (tCons (tC (.bl true)) (tCons (tC (.bl false)) tNil)))))) (gName 9)) tNext)
    (tSeq (tIfS (tTest (tOp rEq (tCall (spDraw K) [] E0 (tCons (tVar 1) (tCons (tC (.int 5)) tNil))) (tC (.int 4)))) (tSeq (tAsg (tCall (spWhole12 K) [] E0 (tCons (tVar 1) (tCons (tVar 2) (tCons (tC (.int 1)) (tCons (tC (.int 60)) tNil))))) (gName 5))
    (tAsg (tTup (tCons (tC (.str "heights")) (tCons (tC .non) (tCons (tC (.bl true)) (tCons (tC (.bl true)) (tCons (tC (.bl false)) tNil)))))) (gName 9))) tNext)
    (tSeq (tAsg (tCB (cReprD K) (tCons (tLst (tCons (tVar 5) (tCons (tVar 7) tNil))) tNil)) (gName 10))
    (tSeq (tIfS (tOr (tTest (tOp (rNeD K) (tCall (spMade12 K C_Profile C_InvalidProfile C_InvalidWidths C_RainError) [] E0 (tCons (tVar 5) (tCons (tVar 7) tNil))) (tVar 9))) (tTest (tOp rNe (tCB (cReprD K) (tCons (tLst (tCons (tVar 5) (tCons (tVar 7) tNil))) tNil)) (tVar 10)))) (tRet (tC (.bl false))) tNext)
    (tSeq (tIfS (tAnd (tTest (tOp (rNeD K) (tVar 9) (tTup tNil))) (tAnd (tTest (tOp rEq (tOp (rIxT K) (tVar 9) (tC (.int 0))) (tC (.str "heights")))) (tTest (tOp (rNeD K) (tCall (spMade12 K C_Profile C_InvalidProfile C_InvalidWidths C_RainError) [] E0 (tCons (tVar 5) (tCons (tC .non) tNil))) (tVar 9))))) (tRet (tC (.bl false))) tNext)
    (tRet (tAndV (tOp (rEqD K) (tCall (spMade12 K C_Profile C_InvalidProfile C_InvalidWidths C_RainError) [] E0 (tCons (tVar 2) (tCons (tVar 4) tNil))) (tTup tNil)) (tOp (rEqD K) (tCall (spMade12 K C_Profile C_InvalidProfile C_InvalidWidths C_RainError) [] E0 (tCons (tCB (cTuple K) (tCons (tVar 2) tNil)) (tCons (tC .non) tNil))) (tTup tNil))))))))))))))))))
local macro_rules | `(tactic| walk_at "rv st") => `(tactic| first
  | with_reducible refine iteT ?_ | with_reducible refine iteF ?_ | with_reducible refine w_nx ?_ | with_reducible refine w_yes ?_ | with_reducible refine w_rt ?_ | with_reducible refine iteNT ?_ | with_reducible refine iteNF ?_ | with_reducible refine iteNRf ?_ | with_reducible refine iteRf ?_ | with_reducible refine w_seqA ?_ | with_reducible refine w_seqD ?_ | with_reducible refine w_seqP ?_ | with_reducible refine w_asg ?_ | with_reducible refine w_ret ?_ | with_reducible refine w_drop ?_ | with_reducible refine w_ifs ?_ | with_reducible refine w_next ?_ | with_reducible refine w_par ?_
  | with_reducible refine w_op ?_ | with_reducible refine w_un ?_ | ((with_reducible show tVar _ _ _ _); refine' w_var ?hv ?_; (case hv => exact rfl)) | with_reducible refine w_c ?_ | with_reducible refine w_test ?_ | with_reducible refine w_tB ?_
  | with_reducible refine w_bl ?_ | with_reducible refine w_I0 ?_ | with_reducible refine w_U ?_ | with_reducible refine w_eqI ?_ | with_reducible refine w_neI ?_
  | with_reducible refine w_cons ?_ | with_reducible refine w_nil ?_ | with_reducible refine w_gn ?_ | with_reducible refine w_gsub ?_ | with_reducible refine w_and ?_ | with_reducible refine w_or ?_ | with_reducible refine w_not ?_
  | with_reducible refine w_andV ?_ | with_reducible refine w_orV ?_ | with_reducible refine w_notV ?_ | with_reducible refine w_if ?_ | with_reducible refine w_cb ?_ | with_reducible refine w_call ?_ | with_reducible refine w_lst ?_ | with_reducible refine w_tup ?_
  | with_reducible refine w_sl ?_ | with_reducible refine w_noPart ?_ | with_reducible refine w_part ?_ | with_reducible refine w_ex1 ?_ | with_reducible refine w_exb ?_ | with_reducible refine w_intB ?_ | with_reducible refine w_intI ?_ | with_reducible refine w_abs ?_)
local macro_rules | `(tactic| walk_at "rv ix") => `(tactic| ((with_reducible show rIxL _ _ _ _ _); refine' w_ixL (sq_lst ?ha) ?hb ?_; (case ha => first | exact upd_same | assumption); (case hb => first | exact rfl | assumption)))
local macro_rules | `(tactic| walk_at "rv ar") => `(tactic| first
  | (refine' w_I ?hc ?_; (case hc => first | (show (0 : Int) < _; first | assumption | decide | omega) | exact pow_c (by decide) (by decide) (by first | decide | omega) (by first | decide | omega) | exact mul_r (by first | decide | omega) (by first | decide | omega) | exact mul_l (by first | decide | omega) (by first | decide | omega) | exact divw (by first | assumption | decide | omega) (by first | assumption | decide | omega))))
local macro_rules | `(tactic| walk_at "rv go") => `(tactic| repeat first | walk_at "rv st" | walk_at "rv ix" | ((with_reducible show rI _ _ _ _ _ _); walk_at "rv ar"))
theorem p_invH {K : PySem.W.Frag} {C : Addr} {vs : List V} {H : Hp} {Q : VK} {E : XK} (h : spExc K C "ValueError" "ValueError.__new__" "ValueError.__init__" bm_ValueError "index" vs H Q E) : t_InvalidProfile___init__ K C { nx := fun _ H' => Q .non H', rt := Q } (start ["self", "index"] vs) H := p_exc "not valid heights of a profile" h fun _ _ => rfl
theorem p_invW {K : PySem.W.Frag} {C : Addr} {vs : List V} {H : Hp} {Q : VK} {E : XK} (h : spExc K C "ValueError" "ValueError.__new__" "ValueError.__init__" bm_ValueError "index" vs H Q E) : t_InvalidWidths___init__ K C { nx := fun _ H' => Q .non H', rt := Q } (start ["self", "index"] vs) H := p_exc "not valid widths of a profile" h fun _ _ => rfl
theorem p_rowX {K : PySem.W.Frag} {vs : List V} {H : Hp} {Q : VK} {E : XK} (h : spRowX K vs H Q E) : t_is_rowX12 K { nx := fun _ H' => Q .non H', rt := Q } (start ["values", "least", "most"] vs) H := by
  obtain ⟨v, lo, hi, o, rfl, hv, k⟩ := h
  cases hv with
  | row h => exact p_row (E := E) ⟨_, lo, hi, _, rfl, h, k⟩
  | other ty ka =>
    rename_i t
    unfold t_is_rowX12
    walk_at "rv go"
    refine ⟨szl (by decide), fun p np => ?_⟩
    have e := same_new (o := .tup [.ty "list", .ty "tuple"]) (Same.refl H) np
    walk_at "rv go"
    refine ⟨v, p, _, t, _, false, rfl, upd_same, .cons (.ty "list") (.cons (.ty "tuple") .nil), ty_same ty e, ka, ?_⟩
    walk_at "rv go"
    exact k _ e
theorem p_chkHX {K : PySem.W.Frag} {CI : Addr} {vs : List V} {H : Hp} {Q : VK} {E : XK} (h : spChkHX K CI vs H Q E) : t_check_heightsX K CI E { nx := fun _ H' => Q .non H', rt := Q } (start ["heights", "wrong"] vs) H := by
  obtain ⟨v, o, rfl, X, hv, hi, k1, k2⟩ := h
  unfold t_check_heightsX
  refine w_seq ?_
  walk_at "rv go"
  refine ⟨v, 1, 60, o, rfl, hv, fun H1 e1 => ?_⟩
  cases c : inL 1 60 o with
  | false =>
    walk_at "rv go"
    refine w_raise ?_
    refine w_mkO ?_
    walk_at "rv go"
    refine exc_newI X ((k1 .non ?_).same e1)
    cases o with
    | none => rfl
    | some xs => unfold badR; exact if_neg (fun z => by have q : (true : Bool) = false := z.symm.trans c; cases q)
  | true =>
    cases hv with
    | other => cases c
    | @row a xs hR =>
      have bd : badR 1 60 (-BigG) BigG (some xs) = if outs (-BigG) BigG xs 0 = .non then none else some (outs (-BigG) BigG xs 0) := by unfold badR; exact if_pos c
      walk_at "rv go"
      refine ⟨a, -BigG, BigG, xs, rfl, ((hR.same (K := K) e1)).elim (fun h => .inl (sq_lst h)) (fun h => .inr (sq_tup h)), fun x hx => (hi xs rfl x hx).same e1, fun H2 e2 => ?_⟩
      walk_at "rv go"
      refine ⟨rfl, ?_⟩
      by_cases z : outs (-BigG) BigG xs 0 = .non
      · rw [if_pos z] at bd
        rw [decide_eq_true z]
        walk_at "rv go"
        exact k2 bd H2 (e1.trans e2)
      · rw [if_neg z] at bd
        rw [decide_eq_false z]
        walk_at "rv go"
        refine w_raise ?_
        refine w_mkO ?_
        walk_at "rv go"
        exact exc_newI X ((k1 _ bd).same (e1.trans e2))
theorem p_chkWX {K : PySem.W.Frag} {CI : Addr} {vs : List V} {H : Hp} {Q : VK} {E : XK} (h : spChkWX K CI vs H Q E) : t_check_widthsX K CI E { nx := fun _ H' => Q .non H', rt := Q } (start ["widths", "many", "wrong"] vs) H := by
  obtain ⟨v, m, o, rfl, X, hv, hi, k1, k2⟩ := h
  unfold t_check_widthsX
  refine w_seq ?_
  walk_at "rv go"
  refine ⟨v, m, m, o, rfl, hv, fun H1 e1 => ?_⟩
  cases c : inL m m o with
  | false =>
    walk_at "rv go"
    refine w_raise ?_
    refine w_mkO ?_
    walk_at "rv go"
    refine exc_newI X ((k1 .non ?_).same e1)
    cases o with
    | none => rfl
    | some xs => unfold badR; exact if_neg (fun z => by have q : (true : Bool) = false := z.symm.trans c; cases q)
  | true =>
    cases hv with
    | other => cases c
    | @row a xs hR =>
      have bd : badR m m 1 BigG (some xs) = if outs 1 BigG xs 0 = .non then none else some (outs 1 BigG xs 0) := by unfold badR; exact if_pos c
      walk_at "rv go"
      refine ⟨a, 1, BigG, xs, rfl, ((hR.same (K := K) e1)).elim (fun h => .inl (sq_lst h)) (fun h => .inr (sq_tup h)), fun x hx => (hi xs rfl x hx).same e1, fun H2 e2 => ?_⟩
      walk_at "rv go"
      refine ⟨rfl, ?_⟩
      by_cases z : outs 1 BigG xs 0 = .non
      · rw [if_pos z] at bd
        rw [decide_eq_true z]
        walk_at "rv go"
        exact k2 bd H2 (e1.trans e2)
      · rw [if_neg z] at bd
        rw [decide_eq_false z]
        walk_at "rv go"
        refine w_raise ?_
        refine w_mkO ?_
        walk_at "rv go"
        exact exc_newI X ((k1 _ bd).same (e1.trans e2))
theorem badR_none {lo hi l u : Int} {o : Option (List V)} (h : badR lo hi l u o = none) : ∃ xs, o = some xs ∧ lo ≤ (xs.length : Int) ∧ (xs.length : Int) ≤ hi := by
  cases o with
  | none => cases h
  | some xs =>
    unfold badR at h
    by_cases c : (decide (lo ≤ (xs.length : Int)) && decide ((xs.length : Int) ≤ hi)) = true
    · have := Bool.and_eq_true_iff.mp c
      exact ⟨xs, rfl, of_decide_eq_true this.1, of_decide_eq_true this.2⟩
    · change (if _ = true then _ else some V.non) = none at h
      rw [if_neg c] at h
      cases h
theorem p_initX12 {K : PySem.W.Frag} {C CH CW : Addr} {vs : List V} {H : Hp} {Q : VK} {E : XK} (h : spInitX K C CH CW vs H Q E) : t_Profile___init__X K C CH CW E { nx := fun _ H' => Q .non H', rt := Q } (start ["self", "heights", "widths"] vs) H := by
  obtain ⟨p, dx, v, w, o, ow, rfl, P, XH, XW, hp, hv, hi, hw, hwi, k1, k2⟩ := h
  unfold t_Profile___init__X
  walk_at "rv go"
  refine ⟨v, o, rfl, XH, hv, hi, k1, fun c1 H1 e1 => ?_⟩
  obtain ⟨xs, rfl, l1, l60⟩ := badR_none c1
  cases hv with
  | @row a _ hR =>
    obtain ⟨k2, k3⟩ := k2 xs rfl c1
    refine w_cut (fun σ' H' => ∃ x ow', σ' = [some (.ref p), some (.ref a), some x] ∧ RowV K H' x ow' ∧ Items K H' ow' ∧ badR xs.length xs.length 1 BigG ow' = wBad w xs.length ow ∧ Same H H') (fun N key => ?_) ?_
    · refine w_ifs ?_
      walk_at "rv go"
      refine ⟨rfl, ?_⟩
      by_cases c : w = .non
      · rw [decide_eq_true c]
        walk_at "rv go"
        refine ⟨szl (by decide), fun q nq => ?_⟩
        walk_at "rv go"
        refine w_lenR (hR.same (same_new e1 nq)) ?_
        walk_at "rv go"
        refine ⟨q, _, _, rfl, rfl, upd_same, by omega, by omega, szl (by simp; omega), fun r nr => ?_⟩
        walk_at "rv go"
        have er : (upd (upd H1 q (.lst [.int 1])) r (.lst ((List.replicate ((xs.length : Int)).toNat [V.int 1]).flatten))) r = some (.lst (List.replicate xs.length (.int 1))) := by
          rw [upd_same, Int.toNat_natCast, List.flatten_replicate_singleton]
        refine key _ _ ⟨.ref r, some (List.replicate xs.length (.int 1)), rfl, .row (.inl er), fun ys ey x hx => ?_, ?_, same_new (same_new e1 nq) nr⟩
        · cases ey
          rw [(List.mem_replicate.mp hx).2]
          exact .int 1
        · have hwb : wBad w xs.length ow = none := if_pos c
          rw [hwb]
          refine badR_ok (by rw [List.length_replicate]; omega) (by rw [List.length_replicate]; omega) (outs_none fun x hx => ?_)
          rw [(List.mem_replicate.mp hx).2]
          decide
      · rw [decide_eq_false c]
        walk_at "rv go"
        exact key _ _ ⟨w, ow, rfl, hw.same e1, hwi.same e1, (if_neg c).symm, e1⟩
    · rintro σ2 H2 ⟨x, ow', rfl, hx, hxi, ebad, e2⟩
      walk_at "rv go"
      refine w_lenR (hR.same e2) ?_
      walk_at "rv go"
      refine ⟨x, _, ow', rfl, XW, hx, hxi, fun z hz => (k2 z (ebad.symm.trans hz)).same e2, fun hn H3 e3 => ?_⟩
      have k3 := k3 (ebad.symm.trans hn)
      obtain ⟨ys, rfl, _, _⟩ := badR_none hn
      cases hx with
      | @row b _ hb =>
        have e23 := e2.trans e3
        refine w_seq ?_
        refine w_sfld ?_
        walk_at "rv go"
        refine tup_call (hR.same e23) fun t1 H4 e4 h1 => ?_
        walk_at "rv go"
        have e24 := e23.trans e4
        refine w_put (e24 _ _ hp) P.cl P.nH (by decide) ?_
        refine w_nx ?_
        refine w_sfld ?_
        walk_at "rv go"
        have hb4 : RowAt K H4 b ys := (hb.same e3).same e4
        have bp : b ≠ p := fun z => by
          have q2 := e24 _ _ hp
          rw [← z] at q2
          rcases hb4 with q | q
          · rw [q] at q2; cases q2
          · rw [q] at q2; cases q2
        have hb5 : RowAt K (upd H4 p (.ins C dx (putF "column_heights" (.ref t1) []))) b ys := hb4.elim (fun q => .inl (by rw [upd_ne bp]; exact q)) (fun q => .inr (by rw [upd_ne bp]; exact q))
        refine tup_call hb5 fun t2 H5 e5 h2 => ?_
        walk_at "rv go"
        refine w_put (fs := putF "column_heights" (.ref t1) []) (e5 _ _ upd_same) P.cl P.nW (by show (1 : Nat) < 1000; decide) ?_
        refine k3 _ fun c o hne hc => ?_
        rw [upd_ne hne]
        refine e5 _ _ ?_
        rw [upd_ne hne]
        exact e24 _ _ hc
theorem rowV_bad {lo hi l u : Int} {o : Option (List V)} {z : V} (h : badR lo hi l u o = some z) : z = .non ∨ ∃ i : Nat, z = .int (i : Int) := by
  have outs_int : ∀ (xs : List V) (n : Nat), outs l u xs n = .non ∨ ∃ i : Nat, outs l u xs n = .int (i : Int) := fun xs => by
    induction xs with
    | nil => exact fun n => .inl rfl
    | cons x r ih =>
      intro n
      unfold outs
      split
      · exact ih (n + 1)
      · exact .inr ⟨n, rfl⟩
  cases o with
  | none => exact .inl (Option.some.inj h).symm
  | some xs =>
    unfold badR at h
    change (if _ = true then (if outs l u xs 0 = .non then none else some (outs l u xs 0)) else some V.non) = some z at h
    split at h
    · split at h
      · cases h
      · rename_i c
        rcases outs_int xs 0 with q | ⟨i, q⟩
        · exact absurd q c
        · exact .inr ⟨i, by rw [← Option.some.inj h, q]⟩
    · exact .inl (Option.some.inj h).symm
theorem wBad_some {w : V} {n : Nat} {ow : Option (List V)} {z : V} (h : wBad w n ow = some z) : z = .non ∨ ∃ i : Nat, z = .int (i : Int) := by
  unfold wBad at h
  split at h
  · cases h
  · exact rowV_bad h
theorem p_made12 {K : PySem.W.Frag} {C CH CW CE : Addr} {vs : List V} {H : Hp} {Q : VK} {E : XK} (h : spMade12 K C CH CW CE vs H Q E) : t__law_made12 K C CH CW CE { nx := fun _ H' => Q .non H', rt := Q } (start ["_law_heights_here", "_law_widths_here", "_law_found", "e"] vs) H := by
  obtain ⟨v, w, o, ow, rfl, P, X, hv, hi, hw, hwi, k⟩ := h
  unfold t__law_made12
  walk_at "rv go"
  refine ⟨szl (by show 0 ≤ 100000; omega), fun p0 n0 => ?_⟩
  have e0 : Same H (upd H p0 (.tup [])) := same_new (Same.refl H) n0
  have hp0 : (upd H p0 (.tup [])) p0 = some (.tup []) := upd_same
  generalize upd H p0 (.tup []) = H0 at e0 hp0 ⊢
  walk_at "rv go"
  refine w_seq ?_
  refine st_is [some v, some w, some (.ref p0), none] rfl ?_
  show tDrop _ _ _ _
  walk_at "rv go"
  show tMakeX _ _ _ _ _ _ _ _
  refine w_makeX ?_
  walk_at "rv go"
  intro x dx nx ndx hne
  have s0 : Same H0 (upd (upd H0 dx (.own x)) x (.ins C dx [])) := fun b o hb => by
    rw [upd_ne (ne_of_none hb nx), upd_ne (ne_of_none hb ndx)]
    exact hb
  have e0s := e0.trans s0
  refine ⟨x, dx, v, w, o, ow, rfl, P, X.xh, X.xw, upd_same, hv.same e0s, hi.same e0s, hw.same e0s, hwi.same e0s, fun z hz => ?_, fun xs eo hn => ⟨fun z hz => ?_, fun hwn H' hf => ⟨rfl, ?_⟩⟩⟩
  · intro d H1 nd e1 hd
    refine wA X.hh fun u nu => ?_
    walk_at "rv go"
    refine w_xf rfl hd rfl ?_
    walk_at "rv go"
    refine w_isD (cv := .ref CE) (fun u r => r) hd X.hR ?_
    walk_at "rv go"
    refine w_isD (cv := .type "ValueError") (fun u r => r) hd X.hV ?_
    walk_at "rv go"
    refine w_isD (cv := .ref CW) (fun u r => r) hd X.hW ?_
    walk_at "rv go"
    refine ⟨szl (by show 5 ≤ 100000; omega), fun r nr => ?_⟩
    walk_at "rv go"
    refine k r _ ((e0s.trans e1).trans (same_new (Same.refl H1) nr)) ?_
    unfold dMade
    rw [hz]
    exact dp5 upd_same (dp_ix (rowV_bad hz))
  · intro d H1 nd e1 hd
    refine wB X.wh (wA X.ww fun u nu => ?_)
    walk_at "rv go"
    refine w_xf rfl hd rfl ?_
    walk_at "rv go"
    refine w_isD (cv := .ref CE) (fun u r => r) hd X.wR ?_
    walk_at "rv go"
    refine w_isD (cv := .type "ValueError") (fun u r => r) hd X.wV ?_
    walk_at "rv go"
    refine w_isD (cv := .ref CH) (fun u r => r) hd X.wH ?_
    walk_at "rv go"
    refine ⟨szl (by show 5 ≤ 100000; omega), fun r nr => ?_⟩
    walk_at "rv go"
    refine k r _ ((e0s.trans e1).trans (same_new (Same.refl H1) nr)) ?_
    subst eo
    unfold dMade
    rw [hn]
    show Dp _ _ _ (match wBad w xs.length ow with | some z => _ | none => _)
    rw [hz]
    exact dp5 upd_same (dp_ix (wBad_some hz))
  · have es : Same H H' := fun b o hb => hf b o (ne_of_none (e0 _ _ hb) nx) (s0 _ _ (e0 _ _ hb))
    have hp' : H' p0 = some (.tup []) := hf _ _ (ne_of_none hp0 nx) (s0 _ _ hp0)
    walk_at "rv go"
    refine k p0 H' es ?_
    subst eo
    unfold dMade
    rw [hn]
    show Dp _ _ _ (match wBad w xs.length ow with | some z => _ | none => _)
    rw [hwn]
    exact .tup (sq_tup hp') .nil
theorem p_first12 {K : PySem.W.Frag} {vs : List V} {H : Hp} {Q : VK} {E : XK} (h : spFirst12 K vs H Q E) : t__law_first12 K { nx := fun _ H' => Q .non H', rt := Q } (start ["_law_places", "_law_least", "_law_place"] vs) H := by
  obtain ⟨a, ps, rfl, ha, ne, h100, k⟩ := h
  unfold t__law_first12
  obtain ⟨p, r, rfl⟩ : ∃ p r, ps = p :: r := by
    cases ps with
    | nil => exact absurd rfl ne
    | cons p r => exact ⟨p, r, rfl⟩
  walk_at "rv go"
  refine w_ixL (v := .int p) (sq_lst ha) (at_nat (j := 0) rfl) ?_
  walk_at "rv go"
  refine w_seq ?_
  refine w_forL (a := a) (fun Q q => w_var rfl q) (sq_lst ha) (fun n σ' H' => H' = H ∧ ∃ m o, σ' = [some (.ref a), some (.int m), o] ∧ m ∈ p :: r ∧ m ≤ p ∧ ∀ i x, i < n → (p :: r)[i]? = some x → m ≤ x) ⟨rfl, p, none, rfl, List.mem_cons_self, Int.le_refl _, fun i x hi => absurd hi (Nat.not_lt_zero _)⟩ (fun _ σ' H' _ ⟨e, _⟩ => by rw [e]; exact sq_lst ha) ?_ ?_
  · rintro n x σ' H' hx ⟨rfl, m, o, rfl, hm, hp, hall⟩
    rw [List.getElem?_map] at hx
    obtain ⟨z, hz, rfl⟩ := Option.map_eq_some_iff.mp hx
    refine w_gn ?_
    walk_at "rv go"
    refine w_both (fun c => ?_) (fun c => ?_)
    · walk_at "rv go"
      refine ⟨rfl, z, _, rfl, List.mem_of_getElem? hz, by omega, fun i x hi hix => ?_⟩
      rcases Nat.lt_succ_iff_lt_or_eq.mp hi with hi | rfl
      · have := hall i x hi hix
        omega
      · rw [hz] at hix
        cases hix
        exact Int.le_refl _
    · walk_at "rv go"
      refine ⟨rfl, m, _, rfl, hm, hp, fun i x hi hix => ?_⟩
      rcases Nat.lt_succ_iff_lt_or_eq.mp hi with hi | rfl
      · exact hall i x hi hix
      · rw [hz] at hix
        cases hix
        omega
  · rintro σ' H' ⟨rfl, m, o, rfl, hm, hp, hall⟩
    refine w_nx ?_
    walk_at "rv go"
    refine k m hm fun x hx => ?_
    obtain ⟨i, hi, rfl⟩ := List.getElem_of_mem hx
    exact hall i _ (by rw [List.length_map]; exact hi) (List.getElem?_eq_getElem hi)
theorem od12_all {H : Hp} {lo F g : Int} {p1 p2 p3 p4 : Addr} (h1 : H p1 = some (.tup [])) (h2 : H p2 = some (.lst [])) (h3 : H p3 = some (.tup [.int 1])) (h4 : H p4 = some (.dK [])) (hF : BigG < F) (hF2 : F.natAbs < 10 ^ 35) (hg : g < lo) (hg2 : g.natAbs < 10 ^ 35) (hlo : lo = -BigG ∨ lo = 1) :
    ∀ (m : Nat) (x : V), ([.non, .bl true, .bl false, .str "3", .str "", .ref p1, .ref p2, .ref p3, .ref p4, .int F, .int (0 - F), .int g] : List V)[m]? = some x → OdF lo H x := fun m x hx => by
  have gb : (0 : Int) < BigG := by decide
  have i1 : inI lo BigG (.int F) = false := by
    show (decide (lo ≤ F) && decide (F ≤ BigG)) = false
    rw [decide_eq_false (show ¬ F ≤ BigG by omega), Bool.and_false]
  have i2 : inI lo BigG (.int (0 - F)) = false := by
    show (decide (lo ≤ 0 - F) && decide (0 - F ≤ BigG)) = false
    rw [decide_eq_false (show ¬ lo ≤ 0 - F by rcases hlo with rfl | rfl <;> omega), Bool.false_and]
  have i3 : inI lo BigG (.int g) = false := by
    show (decide (lo ≤ g) && decide (g ≤ BigG)) = false
    rw [decide_eq_false (show ¬ lo ≤ g by omega), Bool.false_and]
  match m, hx with
  | 0, hx => obtain rfl := Option.some.inj hx; exact .non
  | 1, hx => obtain rfl := Option.some.inj hx; exact .bl true
  | 2, hx => obtain rfl := Option.some.inj hx; exact .bl false
  | 3, hx => obtain rfl := Option.some.inj hx; exact .s3
  | 4, hx => obtain rfl := Option.some.inj hx; exact .s0
  | 5, hx => obtain rfl := Option.some.inj hx; exact .t0 h1
  | 6, hx => obtain rfl := Option.some.inj hx; exact .l0 h2
  | 7, hx => obtain rfl := Option.some.inj hx; exact .t1 h3
  | 8, hx => obtain rfl := Option.some.inj hx; exact .d0 h4
  | 9, hx => obtain rfl := Option.some.inj hx; exact .int F i1 hF2
  | 10, hx => obtain rfl := Option.some.inj hx; exact .int (0 - F) i2 (by omega)
  | 11, hx => obtain rfl := Option.some.inj hx; exact .int g i3 hg2
theorem p_odd12 {K : PySem.W.Frag} {vs : List V} {H : Hp} {Q : VK} {E : XK} (h : spOdd12 K vs H Q E) : t__law_odd12 K { nx := fun _ H' => Q .non H', rt := Q } (start ["_law_draws_here", "_law_least", "_law_far", "_law_odd_here"] vs) H := by
  obtain ⟨d, c, lo, rfl, D, hlo, k⟩ := h
  unfold t__law_odd12
  walk_at "rv go"
  refine draw_call D (by decide) (by decide) fun r H1 r0 r1 b1 D1 => ?_
  walk_at "rv go"
  have r1' : r < 1000000000 := r1
  obtain ⟨F, hF⟩ : ∃ F : Int, F = (10 : Int) ^ Int.toNat 30 + 1 + r := ⟨_, rfl⟩
  have e30 : (10 : Int) ^ Int.toNat 30 = BigG := by decide
  rw [← hF]
  rw [e30] at hF
  refine ⟨szl (by show 0 ≤ 100000; decide), fun p1 n1 => ?_⟩
  have e1 := same_new (o := .tup []) (Same.refl H1) n1
  have q1 : (upd H1 p1 (.tup [])) p1 = some (.tup []) := upd_same
  generalize upd H1 p1 (.tup []) = G1 at e1 q1 ⊢
  walk_at "rv go"
  refine ⟨szl (by show 0 ≤ 100000; decide), fun p2 n2 => ?_⟩
  have e2 := same_new (o := .lst []) (Same.refl G1) n2
  have q2 : (upd G1 p2 (.lst [])) p2 = some (.lst []) := upd_same
  generalize upd G1 p2 (.lst []) = G2 at e2 q2 ⊢
  walk_at "rv go"
  refine ⟨szl (by show 1 ≤ 100000; decide), fun p3 n3 => ?_⟩
  have e3 := same_new (o := .tup [.int 1]) (Same.refl G2) n3
  have q3 : (upd G2 p3 (.tup [.int 1])) p3 = some (.tup [.int 1]) := upd_same
  generalize upd G2 p3 (.tup [.int 1]) = G3 at e3 q3 ⊢
  walk_at "rv go"
  intro p4 n4
  have e4 := same_new (o := .dK []) (Same.refl G3) n4
  have q4 : (upd G3 p4 (.dK [])) p4 = some (.dK []) := upd_same
  generalize upd G3 p4 (.dK []) = G4 at e4 q4 ⊢
  have D4 := (((D1.new e1).new e2).new e3).new e4
  have f1 : H1 p1 = none := n1
  have f2 : H1 p2 = none := free_same e1 n2
  have f3 : H1 p3 = none := free_same (e1.trans e2) n3
  have f4 : H1 p4 = none := free_same ((e1.trans e2).trans e3) n4
  have nd : ∀ {a : Addr}, H1 a = none → a ≠ d := fun h => D1.nd h
  have old : ∀ {a : Addr}, H1 a = none → H a = none := fun {a} h => by
    cases z : H a with
    | none => rfl
    | some o =>
      rw [b1 _ _ (nd h) z] at h
      cases h
  walk_at "rv go"
  refine draw_call D4 (by decide) (by decide) fun r2 H5 r20 r21 b5 D5 => ?_
  walk_at "rv go"
  refine ⟨szl (by show 12 ≤ 100000; decide), fun l nl => ?_⟩
  have e6 := same_new (o := .lst [.non, .bl true, .bl false, .str "3", .str "", .ref p1, .ref p2, .ref p3, .ref p4, .int F, .int (0 - F), .int (lo - 1 - r2)]) (Same.refl H5) nl
  have ql : (upd H5 l (.lst [.non, .bl true, .bl false, .str "3", .str "", .ref p1, .ref p2, .ref p3, .ref p4, .int F, .int (0 - F), .int (lo - 1 - r2)])) l = some (.lst [.non, .bl true, .bl false, .str "3", .str "", .ref p1, .ref p2, .ref p3, .ref p4, .int F, .int (0 - F), .int (lo - 1 - r2)]) := upd_same
  have ld : l ≠ d := D5.nd nl
  generalize upd H5 l (.lst [.non, .bl true, .bl false, .str "3", .str "", .ref p1, .ref p2, .ref p3, .ref p4, .int F, .int (0 - F), .int (lo - 1 - r2)]) = H6 at e6 ql ⊢
  walk_at "rv go"
  refine draw_call (D5.new e6) (by decide) (by decide) fun i H7 i0 i1 b7 D7 => ?_
  obtain ⟨n, rfl⟩ : ∃ n : Nat, i = (n : Int) := ⟨i.toNat, by omega⟩
  have lift : ∀ {a : Addr} {o : HO}, a ≠ d → G4 a = some o → H7 a = some o := fun na h => b7 _ _ na (e6 _ _ (b5 _ _ na h))
  have A := od12_all (H := H7) (lo := lo) (F := F) (g := lo - 1 - r2) (lift (nd f1) (e4 _ _ (e3 _ _ (e2 _ _ q1)))) (lift (nd f2) (e4 _ _ (e3 _ _ q2))) (lift (nd f3) (e4 _ _ q3)) (lift (nd f4) q4) (by omega) (by show F.natAbs < 100000000000000000000000000000000000; unfold BigG at hF; omega) (by omega) (by show (lo - 1 - r2).natAbs < 100000000000000000000000000000000000; unfold BigG at hlo; omega) hlo
  have hn : n < 12 := by omega
  obtain ⟨x, hx⟩ : ∃ x, ([.non, .bl true, .bl false, .str "3", .str "", .ref p1, .ref p2, .ref p3, .ref p4, .int F, .int (0 - F), .int (lo - 1 - r2)] : List V)[n]? = some x := ⟨_, List.getElem?_eq_getElem hn⟩
  refine w_ixL (sq_lst (b7 _ _ ld ql)) (at_nat hx) ?_
  refine k x H7 (((b1.trans (But.same ((((e1.trans e2).trans e3).trans e4)))).trans b5).trans ((But.same e6).trans b7)) D7 (A n x hx) fun a ea => ?_
  subst ea
  have mem := List.mem_of_getElem? hx
  simp only [List.mem_cons, V.ref.injEq, reduceCtorEq, false_or, List.not_mem_nil, or_false] at mem
  rcases mem with rfl | rfl | rfl | rfl
  · exact old f1
  · exact old f2
  · exact old f3
  · exact old f4
theorem p_spoilt12 {K : PySem.W.Frag} {vs : List V} {H : Hp} {Q : VK} {E : XK} (h : spSpoilt12 K vs H Q E) : t__law_spoilt12 K { nx := fun _ H' => Q .non H', rt := Q } (start ["_law_draws_here", "_law_row", "_law_least", "_law_places", "_law_result", "_law_turn", "_law_place"] vs) H := by
  obtain ⟨d, c, ra, xs, lo, rfl, D, rd, hra, l1, l60, hlo, k⟩ := h
  unfold t__law_spoilt12
  walk_at "rv go"
  refine ⟨szl (by show 0 ≤ 100000; decide), fun pa npa => ?_⟩
  have e1 := same_new (o := .lst []) (Same.refl H) npa
  have hpa1 : (upd H pa (.lst [])) pa = some (.lst []) := upd_same
  generalize upd H pa (.lst []) = H1 at e1 hpa1 ⊢
  walk_at "rv go"
  refine ⟨ra, _, rfl, .inl (sq_lst (e1 _ _ hra)), fun ya nya => ?_⟩
  have nyaH : H ya = none := free_same e1 nya
  have ypa : ya ≠ pa := fun z => by rw [z, hpa1] at nya; cases nya
  have e2 := same_new (o := .lst (xs.map V.int)) (Same.refl H1) nya
  have hya2 : (upd H1 ya (.lst (xs.map V.int))) ya = some (.lst (xs.map V.int)) := upd_same
  generalize upd H1 ya (.lst (xs.map V.int)) = H2 at e2 hya2 ⊢
  have e02 := e1.trans e2
  have D2 := D.new e02
  have yd := D.nd nyaH
  have pd := D.nd npa
  have yc := D.nc nyaH
  have pc := D.nc npa
  refine w_gn ?_
  refine w_seq ?_
  refine RvM.w_forI ?_
  walk_at "rv go"
  refine draw_call D2 (by decide) (by decide) fun n H3 n0 n1 b3 D3 => ?_
  walk_at "rv go"
  refine ⟨n, rfl, by omega, by omega, ?_⟩
  refine RvM.w_forRn (fun i σ' H' => ∃ ys ps o5 o6, σ' = [some (.ref d), some (.ref ra), some (.int lo), some (.ref pa), some (.ref ya), o5, o6] ∧ DrawsAt H' d c ∧ But d H H' ∧ H' ya = some (.lst ys) ∧ H' pa = some (.lst ((ps : List Int).map V.int)) ∧ ps.length = i ∧ i ≤ 3 ∧ Spo lo H' xs ys ps ∧ ∀ x ∈ ys, ∀ a, x = .ref a → a ≠ d ∧ a ≠ ya ∧ a ≠ pa)
    ⟨xs.map V.int, [], none, none, rfl, D3, (But.same e02).trans b3, b3 _ _ yd hya2, b3 _ _ pd (e2 _ _ hpa1), rfl, by omega, ⟨List.length_map .., by simp, fun p hp => by simp at hp, fun i x hx => ?_⟩, fun x hx a ea => ?_⟩ ?_ ?_
  · rw [List.getElem?_map] at hx
    obtain ⟨z, hz, rfl⟩ := Option.map_eq_some_iff.mp hx
    exact .inr ⟨by simp, z, hz, rfl⟩
  · obtain ⟨z, _, rfl⟩ := List.mem_map.mp hx
    cases ea
  · rintro i σ' H' hi ⟨ys, ps, o5, o6, rfl, D', B', hy, hp, hl, i3, S, F⟩
    refine st_is [some (.ref d), some (.ref ra), some (.int lo), some (.ref pa), some (.ref ya), some (.int (i : Int)), o6] rfl ?_
    walk_at "rv go"
    refine w_lenL (sq_lst (B' _ _ rd hra)) ?_
    walk_at "rv go"
    rw [List.length_map]
    refine draw_call D' (by omega) (Int.lt_of_le_of_lt (b := 60) (by omega) (by decide)) fun p H5 p0 p1 b5 D5 => ?_
    obtain ⟨q, rfl⟩ : ∃ q : Nat, p = (q : Int) := ⟨p.toNat, by omega⟩
    walk_at "rv go"
    refine ⟨d, c, lo, rfl, D5, hlo, fun v H6 b6 D6 ov fv => ?_⟩
    have hy6 := b6 _ _ yd (b5 _ _ yd hy)
    have hp6 := b6 _ _ pd (b5 _ _ pd hp)
    have vF : ∀ a, v = .ref a → a ≠ d ∧ a ≠ ya ∧ a ≠ pa := fun a ea => by
      have na := fv a ea
      refine ⟨D5.nd na, fun z => ?_, fun z => ?_⟩
      · rw [z, b5 _ _ yd hy] at na; cases na
      · rw [z, b5 _ _ pd hp] at na; cases na
    walk_at "rv go"
    refine w_setL hy6 (ixN_nat (by rw [S.len]; omega)) ?_
    have hy7 : (upd H6 ya (.lst (ys.set q v))) ya = some (.lst (ys.set q v)) := upd_same
    have hp7 : (upd H6 ya (.lst (ys.set q v))) pa = some (.lst (ps.map V.int)) := by rw [upd_ne ypa.symm]; exact hp6
    have u7 : ∀ b o, b ≠ ya → H6 b = some o → (upd H6 ya (.lst (ys.set q v))) b = some o := fun b o n h => by rw [upd_ne n]; exact h
    have D7 := D6.wr (o := .lst (ys.set q v)) yd yc
    generalize upd H6 ya (.lst (ys.set q v)) = H7 at hy7 hp7 u7 D7 ⊢
    walk_at "rv go"
    refine w_bm rfl hp7 ?_
    walk_at "rv go"
    refine w_appR hp7 (by rw [List.length_map]; omega) ?_
    have hp8 : (upd H7 pa (.lst (ps.map V.int ++ [.int (q : Int)]))) pa = some (.lst ((ps ++ [(q : Int)]).map V.int)) := by rw [upd_same, List.map_append]; rfl
    have hy8 : (upd H7 pa (.lst (ps.map V.int ++ [.int (q : Int)]))) ya = some (.lst (ys.set q v)) := by rw [upd_ne ypa]; exact hy7
    have u8 : ∀ b o, b ≠ ya → b ≠ pa → H6 b = some o → (upd H7 pa (.lst (ps.map V.int ++ [.int (q : Int)]))) b = some o := fun b o n n' h => by rw [upd_ne n']; exact u7 _ _ n h
    have D8 := D7.wr (o := .lst (ps.map V.int ++ [.int (q : Int)])) pd pc
    generalize upd H7 pa (.lst (ps.map V.int ++ [.int (q : Int)])) = H8 at hp8 hy8 u8 D8 ⊢
    have st : ∀ {x : V}, OdF lo H' x → (∀ a, x = .ref a → a ≠ d ∧ a ≠ ya ∧ a ≠ pa) → OdF lo H8 x := fun h hf => h.step (S := fun a => a = d ∨ a = ya ∨ a = pa) (fun a ea z => by
      obtain ⟨f1, f2, f3⟩ := hf a ea
      rcases z with z | z | z
      · exact f1 z
      · exact f2 z
      · exact f3 z) fun b o nb hb => u8 _ _ (fun z => nb (.inr (.inl z))) (fun z => nb (.inr (.inr z))) (b6 _ _ (fun z => nb (.inl z)) (b5 _ _ (fun z => nb (.inl z)) hb))
    have st6 : OdF lo H8 v := ov.step (S := fun a => a = ya ∨ a = pa) (fun a ea z => by
      obtain ⟨f1, f2, f3⟩ := vF a ea
      rcases z with z | z
      · exact f2 z
      · exact f3 z) fun b o nb hb => u8 _ _ (fun z => nb (.inl z)) (fun z => nb (.inr z)) hb
    refine w_nx ?_
    refine ⟨ys.set q v, ps ++ [(q : Int)], _, _, rfl, D8, fun b o nb hb => u8 _ _ (fun z => by rw [z, nyaH] at hb; cases hb) (fun z => by rw [z, npa] at hb; cases hb) (b6 _ _ nb (b5 _ _ nb (B' _ _ nb hb))), hy8, hp8, by rw [List.length_append, hl]; rfl, by omega, ⟨by rw [List.length_set]; exact S.len, by rw [List.length_append, hl]; show i + 1 ≤ 3; omega, fun p hp => ?_, fun j x hx => ?_⟩, fun x hx => ?_⟩
    · rcases List.mem_append.mp hp with hp | hp
      · exact S.pr p hp
      · rw [List.mem_singleton.mp hp]
        exact ⟨p0, p1⟩
    · by_cases c : j = q
      · subst c
        rw [List.getElem?_set_self (by rw [S.len]; omega)] at hx
        obtain rfl := Option.some.inj hx
        exact .inl ⟨List.mem_append_right _ (by simp), st6⟩
      · rw [List.getElem?_set_ne (Ne.symm c)] at hx
        rcases S.at_ j x hx with ⟨m, o⟩ | ⟨m, o⟩
        · exact .inl ⟨List.mem_append_left _ m, st o (F x (List.mem_of_getElem? hx))⟩
        · refine .inr ⟨fun m' => ?_, o⟩
          rcases List.mem_append.mp m' with m' | m'
          · exact m m'
          · have := List.mem_singleton.mp m'
            omega
    · rcases List.mem_or_eq_of_mem_set hx with hx | rfl
      · exact F x hx
      · exact vF
  · rintro σ' H' ⟨ys, ps, o5, o6, rfl, D', B', hy, hp, hl, i3, S, F⟩
    walk_at "rv go"
    refine ⟨szl (by show 2 ≤ 100000; decide), fun t nt => ?_⟩
    have e := same_new (o := .tup [.ref ya, .ref pa]) (Same.refl H') nt
    refine k t ya pa ys ps _ (B'.trans (But.same e)) (D'.new e) (D'.nd nt) yd pd upd_same (e _ _ hy) (e _ _ hp) ⟨S.len, S.pl, S.pr, fun i x hx => ?_⟩ fun x hx a ea => (F x hx a ea).1
    rcases S.at_ i x hx with ⟨m, o⟩ | h
    · exact .inl ⟨m, o.step (S := fun _ => False) (fun _ _ z => z) fun b o _ hb => e _ _ hb⟩
    · exact .inr h
theorem w_lcI12 {σ : L2.St} {H : Hp} {Q : VK} {tr : TA} {g : TG} {tt : TT} {te : TE} {ws : List Nat} (q : tr σ H fun vs H1 => ∃ j : Int, vs = [.int j] ∧ -(2 ^ 62) ≤ j ∧ j < 2 ^ 62 ∧ tLc (RvM.iRn j.toNat) g tt te ws σ H1 Q) : tLc (iRng1 tr) g tt te ws σ H Q := q
theorem w_lcN12 {σ : L2.St} {H : Hp} {Q : VK} {slot n : Nat} {te : TE} {x : Int} (hn : n ≤ 1000)
    (hs : ∀ j, ∀ H1 (Q : VK), Same H H1 → Q (.int x) H1 → te ((σ.set slot none).set slot (some (.int (j : Int)))) H1 Q)
    (k : ∀ D H1, H D = none → Same H H1 → H1 D = some (.lst ((List.replicate n x).map V.int)) → Q (.ref D) H1) : tLc (RvM.iRn n) (gName slot) tYes te [slot] σ H Q := by
  have h := w_lcR (n := n) (σ := σ) (H := H) (Q := Q) (slot := slot) (te := te) (tr := fun _ H AQ => AQ [.int (n : Int)] H) (by omega) (fun AQ q => q) (fun D acc H' => Same H H' ∧ H D = none ∧ acc = (List.replicate acc.length x).map V.int ∧ H' D = some (.lst acc) ∧ acc.length ≤ n) (fun D nD => ⟨same_new (Same.refl H) nD, nD, rfl, upd_same, Nat.zero_le _⟩)
    (fun D acc H1 hl ⟨e, nD, ea, hD, ln⟩ => hs _ H1 _ e ⟨acc, hD, Nat.lt_of_lt_of_le (by omega : acc.length < 1001) (by decide), acc ++ [.int x], by rw [List.length_append]; rfl, fun b o hb => by rw [upd_ne (ne_of_none hb nD)]; exact e _ _ hb, nD, by rw [List.length_append]; show acc ++ _ = (List.replicate (acc.length + 1) x).map V.int; rw [List.replicate_succ', List.map_append, ← ea]; rfl, upd_same, by rw [List.length_append]; show acc.length + 1 ≤ n; omega⟩)
    (fun D acc H1 hl ⟨e, nD, ea, hD, _⟩ => k D H1 nD e (by rw [hD, ea, hl]))
  obtain ⟨j, ej, _, _, q⟩ := h
  cases ej
  rw [Int.toNat_natCast] at q
  exact q
theorem at0_map {xs : List Int} (h : 1 ≤ xs.length) : ∃ x, x ∈ xs ∧ atI (xs.map V.int) 0 = some (.int x) := by
  cases xs with
  | nil => simp at h
  | cons x r => exact ⟨x, List.mem_cons_self, at_nat (j := 0) rfl⟩
theorem p_whole12 {K : PySem.W.Frag} {vs : List V} {H : Hp} {Q : VK} {E : XK} (h : spWhole12 K vs H Q E) : t__law_whole12 K { nx := fun _ H' => Q .non H', rt := Q } (start ["_law_draws_here", "_law_row", "_law_least_length", "_law_most_length", "_law_longer", "_law_shorter", "_law_k"] vs) H := by
  obtain ⟨d, c, ra, xs, lo, hi, rfl, D, rd, hra, l1, sx, lo1, lohi, hi60, k⟩ := h
  obtain ⟨x, mx, hx⟩ := at0_map l1
  have sx := sx x mx
  unfold t__law_whole12
  refine w_seqA ?_
  refine w_lcI12 ?_
  walk_at "rv go"
  refine draw_call D (by decide) (by decide) fun r H1 r0 r1 b1 D1 => ?_
  walk_at "rv go"
  obtain ⟨n, hn⟩ : ∃ n : Nat, (n : Int) = hi + 1 + r := ⟨(hi + 1 + r).toNat, by omega⟩
  refine ⟨hi + 1 + r, rfl, by omega, by omega, ?_⟩
  rw [← hn, Int.toNat_natCast]
  have hra1 := b1 _ _ rd hra
  refine w_lcN12 (x := x) (by omega) (fun j H' Q' e q => ?_) fun L H2 nL e2 hL => ?_
  · walk_at "rv go"
    exact w_ixL (sq_lst (e _ _ hra1)) hx q
  refine w_gn ?_
  refine w_seqA ?_
  refine w_lcI12 ?_
  walk_at "rv go"
  have D2 := D1.new e2
  have Ld := D1.nd nL
  refine draw_call D2 (by omega) (Int.lt_of_le_of_lt (b := 60) (by omega) (by decide)) fun s H3 s0 s1 b3 D3 => ?_
  walk_at "rv go"
  obtain ⟨m, hm⟩ : ∃ m : Nat, (m : Int) = s := ⟨s.toNat, by omega⟩
  refine ⟨s, rfl, by omega, by omega, ?_⟩
  rw [← hm, Int.toNat_natCast]
  have hra3 := b3 _ _ rd (e2 _ _ hra1)
  refine w_lcN12 (x := x) (by omega) (fun j H' Q' e q => ?_) fun S H4 nS e4 hS => ?_
  · walk_at "rv go"
    exact w_ixL (sq_lst (e _ _ hra3)) hx q
  have Sd := D3.nd nS
  have hL4 := e4 _ _ (b3 _ _ Ld hL)
  have D4 := D3.new e4
  have B4 : But d H H4 := ((b1.trans (But.same e2)).trans b3).trans (But.same e4)
  walk_at "rv go"
  intro p1 n1
  have f1 := same_new (o := .dK []) (Same.refl H4) n1
  have q1 : (upd H4 p1 (.dK [])) p1 = some (.dK []) := upd_same
  have d1 := D4.nd n1
  generalize upd H4 p1 (.dK []) = G1 at f1 q1 ⊢
  walk_at "rv go"
  intro p2 n2
  have d2 := (D4.new f1).nd n2
  refine ⟨upd_same, [(.inl 0, .int 1)], rfl, by decide, ?_⟩
  have f2 : Same G1 (upd (upd G1 p2 (.dK [])) p2 (.dK (mergeK [] [(.inl 0, .int 1)]))) := fun b o hb => by
    rw [upd_ne (ne_of_none hb n2), upd_ne (ne_of_none hb n2)]
    exact hb
  have q2 : (upd (upd G1 p2 (.dK [])) p2 (.dK (mergeK [] [(.inl 0, .int 1)]))) p2 = some (.dK [(.inl 0, .int 1)]) := upd_same
  generalize upd (upd G1 p2 (.dK [])) p2 (.dK (mergeK [] [(.inl 0, .int 1)])) = G2 at f2 q2 ⊢
  have f02 := f1.trans f2
  walk_at "rv go"
  refine ⟨L, _, rfl, .inl ⟨sq_lst (f02 _ _ hL4), fun p3 n3 => ?_⟩⟩
  have d3 := ((D4.new f02)).nd n3
  have f3 := same_new (o := .tup ((List.replicate n x).map V.int)) (Same.refl G2) n3
  have q3 : (upd G2 p3 (.tup ((List.replicate n x).map V.int))) p3 = some (.tup ((List.replicate n x).map V.int)) := upd_same
  generalize upd G2 p3 (.tup ((List.replicate n x).map V.int)) = G3 at f3 q3 ⊢
  walk_at "rv go"
  refine ⟨S, _, rfl, .inl ⟨sq_lst (f3 _ _ (f02 _ _ hS)), fun p4 n4 => ?_⟩⟩
  have d4 := ((D4.new f02).new f3).nd n4
  have f4 := same_new (o := .tup ((List.replicate m x).map V.int)) (Same.refl G3) n4
  have q4 : (upd G3 p4 (.tup ((List.replicate m x).map V.int))) p4 = some (.tup ((List.replicate m x).map V.int)) := upd_same
  generalize upd G3 p4 (.tup ((List.replicate m x).map V.int)) = G4 at f4 q4 ⊢
  have f04 := (f02.trans f3).trans f4
  have D5 := D4.new f04
  walk_at "rv go"
  refine ⟨szl (by show 11 ≤ 100000; decide), fun l nl => ?_⟩
  have e6 := same_new (o := .lst [.int 7, .bl true, .bl false, .str "11", .str "", .ref p1, .ref p2, .ref L, .ref p3, .ref S, .ref p4]) (Same.refl G4) nl
  have ql : (upd G4 l (.lst [.int 7, .bl true, .bl false, .str "11", .str "", .ref p1, .ref p2, .ref L, .ref p3, .ref S, .ref p4])) l = some (.lst [.int 7, .bl true, .bl false, .str "11", .str "", .ref p1, .ref p2, .ref L, .ref p3, .ref S, .ref p4]) := upd_same
  have ld : l ≠ d := D5.nd nl
  generalize upd G4 l (.lst [.int 7, .bl true, .bl false, .str "11", .str "", .ref p1, .ref p2, .ref L, .ref p3, .ref S, .ref p4]) = H6 at e6 ql ⊢
  walk_at "rv go"
  refine draw_call (D5.new e6) (by decide) (by decide) fun i H7 i0 i1 b7 D7 => ?_
  obtain ⟨j, rfl⟩ : ∃ j : Nat, i = (j : Int) := ⟨i.toNat, by omega⟩
  have lift : ∀ {a : Addr} {o : HO}, a ≠ d → G4 a = some o → H7 a = some o := fun na h => b7 _ _ na (e6 _ _ h)
  have B7 : But d H H7 := (B4.trans (But.same f04)).trans ((But.same e6).trans b7)
  have fin : ∀ {v : V}, ([.int 7, .bl true, .bl false, .str "11", .str "", .ref p1, .ref p2, .ref L, .ref p3, .ref S, .ref p4] : List V)[j]? = some v → WhF lo hi H7 v ∧ ∀ a, v = .ref a → a ≠ d := fun {v} hv => by
    have g1 := lift d1 (f4 _ _ (f3 _ _ (f2 _ _ q1)))
    have g2 := lift d2 (f4 _ _ (f3 _ _ q2))
    have g3 := lift d3 (f4 _ _ q3)
    have g4 := lift d4 q4
    have gL := lift Ld (f04 _ _ hL4)
    have gS := lift Sd (f04 _ _ hS)
    match j, hv with
    | 0, hv => obtain rfl := Option.some.inj hv; exact ⟨.n7, fun a e => by cases e⟩
    | 1, hv => obtain rfl := Option.some.inj hv; exact ⟨.bl true, fun a e => by cases e⟩
    | 2, hv => obtain rfl := Option.some.inj hv; exact ⟨.bl false, fun a e => by cases e⟩
    | 3, hv => obtain rfl := Option.some.inj hv; exact ⟨.s11, fun a e => by cases e⟩
    | 4, hv => obtain rfl := Option.some.inj hv; exact ⟨.s0, fun a e => by cases e⟩
    | 5, hv => obtain rfl := Option.some.inj hv; exact ⟨.d0 g1, fun a e => by cases e; exact d1⟩
    | 6, hv => obtain rfl := Option.some.inj hv; exact ⟨.d1 g2, fun a e => by cases e; exact d2⟩
    | 7, hv => obtain rfl := Option.some.inj hv; exact ⟨.ls n x gL (.inr (by omega)) (by omega) sx, fun a e => by cases e; exact Ld⟩
    | 8, hv => obtain rfl := Option.some.inj hv; exact ⟨.tp n x g3 (.inr (by omega)) (by omega) sx, fun a e => by cases e; exact d3⟩
    | 9, hv => obtain rfl := Option.some.inj hv; exact ⟨.ls m x gS (.inl (by omega)) (by omega) sx, fun a e => by cases e; exact Sd⟩
    | 10, hv => obtain rfl := Option.some.inj hv; exact ⟨.tp m x g4 (.inl (by omega)) (by omega) sx, fun a e => by cases e; exact d4⟩
  obtain ⟨v, hv⟩ : ∃ v, ([.int 7, .bl true, .bl false, .str "11", .str "", .ref p1, .ref p2, .ref L, .ref p3, .ref S, .ref p4] : List V)[j]? = some v := ⟨_, List.getElem?_eq_getElem (show j < 11 by omega)⟩
  refine w_ixL (sq_lst (b7 _ _ ld ql)) (at_nat hv) ?_
  exact k v H7 B7 D7 (fin hv).1 (fin hv).2
theorem BdV.but {lo hi l : Int} {xs : List Int} {d : Addr} {H H' : Hp} {v : V} {b : Option V} (h : BdV lo hi l xs d H v b) (e : But d H H') : BdV lo hi l xs d H' v b := by
  cases h with
  | sp h S F yd hb =>
    refine .sp (e _ _ yd h) ⟨S.len, S.pl, S.pr, fun i x hx => ?_⟩ F yd hb
    rcases S.at_ i x hx with ⟨m, o⟩ | q
    · exact .inl ⟨m, o.step (S := fun a => a = d) (F x (List.mem_of_getElem? hx)) fun c o nc hc => e _ _ nc hc⟩
    · exact .inr q
  | wh w f =>
    refine .wh ?_ f
    cases w with
    | n7 => exact .n7
    | bl b => exact .bl b
    | s11 => exact .s11
    | s0 => exact .s0
    | d0 h => exact .d0 (e _ _ (f _ rfl) h)
    | d1 h => exact .d1 (e _ _ (f _ rfl) h)
    | ls n x h b n70 sx => exact .ls n x (e _ _ (f _ rfl) h) b n70 sx
    | tp n x h b n70 sx => exact .tp n x (e _ _ (f _ rfl) h) b n70 sx
mutual
theorem dq_same {K : PySem.W.Frag} {H H' : Hp} (e : Same H H') : ∀ (d : PyData) (v : V), Dq K H v d → Dq K H' v d
  | .none, _, h => by cases h; exact .non
  | .bool b, _, h => by cases h; exact .bl b
  | .int i, _, h => by cases h; exact .int i
  | .str x, _, h => by cases h; exact .str x
  | .list ds, _, h => by
    cases h with
    | lst hs ha => exact .lst (sql_same hs e) (dq_sameA e ds _ ha)
  | .tuple ds, _, h => by
    cases h with
    | tup hs ha => exact .tup (sqT_same0 hs e) (dq_sameA e ds _ ha)
  | .dict ps, _, h => by
    cases h with
    | dic0 h => exact .dic0 (e _ _ h)
    | dic1 h => exact .dic1 (e _ _ h)
theorem dq_sameA {K : PySem.W.Frag} {H H' : Hp} (e : Same H H') : ∀ (ds : List PyData) (vs : List V), DqAll K H vs ds → DqAll K H' vs ds
  | [], _, h => by cases h; exact .nil
  | d :: ds, _, h => by
    cases h with
    | cons h1 h2 => exact .cons (dq_same e d _ h1) (dq_sameA e ds _ h2)
end
theorem sh_ft {x : Str} (hx : PyData.strOk x = true) (b : Option V) : SeqAt.shaped (dFt x b) = true := by
  cases b with
  | none => simp [dFt, SeqAt.shaped, PyData.canLay0, PyData.canLayAll0, PyData.depth, PyData.depthAll]
  | some z =>
    have hz : PyData.canLay0 (dIx z) = true ∧ PyData.depth (dIx z) = 0 := by cases z <;> simp [dIx, PyData.canLay0, PyData.depth]
    simp [dFt, SeqAt.shaped, PyData.canLay0, PyData.canLayAll0, PyData.depth, PyData.depthAll, hx, hz.1, hz.2]
theorem sh_dAll (bh bw : Option V) : SeqAt.shaped (dAll bh bw) = true := by
  cases bh with
  | some z => exact sh_ft (by decide +kernel) (some z)
  | none => exact sh_ft (by decide +kernel) bw
theorem made_all {o ow : Option (List V)} {w : V} {n : Nat} {bh bw : Option V} (h1 : badR 1 60 (-BigG) BigG o = bh) (hw : w ≠ .non) (h2 : badR n n 1 BigG ow = bw) (hn : bh = none → (o.getD []).length = n) : dMade o w ow = dAll bh bw := by
  unfold dMade
  rw [h1]
  cases bh with
  | some z => rfl
  | none =>
    have e : wBad w ((o.getD []).length) ow = bw := by
      unfold wBad
      rw [if_neg hw, hn rfl]
      exact h2
    show (match wBad w ((o.getD []).length) ow with | some z => _ | none => _) = dFt "widths" bw
    rw [e]
    cases bw <;> rfl
theorem made_h {o ow : Option (List V)} {z w : V} (h1 : badR 1 60 (-BigG) BigG o = some z) : dMade o w ow = dFt "heights" (some z) := by
  unfold dMade
  rw [h1]
  rfl
theorem made_fine {o : Option (List V)} {w : V} {ow : Option (List V)} (h1 : badR 1 60 (-BigG) BigG o = none) (h2 : wBad w ((o.getD []).length) ow = none) : dMade o w ow = .tuple [] := by
  unfold dMade
  rw [h1]
  show (match wBad w ((o.getD []).length) ow with | some z => _ | none => _) = _
  rw [h2]
theorem badR_ints {lo hi l : Int} {zs : List Int} (h1 : lo ≤ (zs.length : Int)) (h2 : (zs.length : Int) ≤ hi) (h : ∀ z ∈ zs, inI l BigG (.int z) = true) : badR lo hi l BigG (some (zs.map V.int)) = none :=
  badR_ok (by rw [List.length_map]; exact h1) (by rw [List.length_map]; exact h2) (outs_none fun x hx => by
    obtain ⟨z, hz, rfl⟩ := List.mem_map.mp hx
    exact h z hz)
theorem neD_nil {K : PySem.W.Frag} {H : Hp} {Q : VK} {a b : Addr} {zs : List Int} (ha : H a = some (.lst (zs.map V.int))) (hb : H b = some (.lst [])) (q : Q (.bl (!decide (zs = []))) H) : rNeD K (.ref a) (.ref b) H Q := by
  refine ⟨.list (zs.map PyData.int), .list [], .lst (sq_lst ha) (dp_ints zs), .lst (sq_lst hb) .nil, ?_, by decide +kernel, ?_⟩
  · have h := lay_ints zs
    simp [SeqAt.shaped, PyData.canLay0, PyData.depth, h.1, h.2]
  · cases zs with
    | nil => exact q
    | cons z r => exact q
theorem Due.but {K : PySem.W.Frag} {H H' : Hp} {d r : Addr} {D : PyData} {bh bw : Option V} (h : Due K H d r D bh bw) (e : But d H H') : Due K H' d r D bh bw := by
  refine ⟨h.nd, h.eq, ?_⟩
  rcases h.tu with ⟨h1, h2⟩ | ⟨x, z, h1, h2, h3, h4, h5⟩
  · exact .inl ⟨h1, e _ _ h.nd h2⟩
  · exact .inr ⟨x, z, h1, h2, h3, e _ _ h.nd h4, h5⟩
theorem p_law12 {K : PySem.W.Frag} {C CH CW CE : Addr} {vs : List V} {H : Hp} {Q : VK} {E : XK} (h : spLaw12 K C CH CW CE vs H Q E) : t_law12 K C CH CW CE { nx := fun _ H' => Q .non H', rt := Q } (start ["_law_script", "_law_draws_here", "_law_heights_here", "_law_many", "_law_widths_here", "_law_bad_heights", "_law_places", "_law_bad_widths", "_law_width_places", "_law_due", "_law_kept"] vs) H := by
  obtain ⟨a, ns, rfl, hS, P, X, SD, k⟩ := h
  unfold t_law12
  walk_at "rv go"
  refine ⟨a, ns, rfl, hS, fun d c H1 nd nc e1 D1 => ?_⟩
  walk_at "rv go"
  refine ⟨d, c, rfl, D1, fun ha H2 hs l1 l60 hok b2 D2 nha hh => ?_⟩
  have had : ha ≠ d := D1.nd nha
  walk_at "rv go"
  refine w_lenL (sq_lst hh) ?_
  walk_at "rv go"
  rw [List.length_map]
  refine ⟨d, c, _, rfl, l60, D2, fun hw H3 ws hlw wok b3 D3 nhw hhw => ?_⟩
  have hwd : hw ≠ d := D2.nd nhw
  have hh3 := b3 _ _ had hh
  have elo : (0 : Int) - 10 ^ Int.toNat 30 = -BigG := by decide
  have inH : ∀ x ∈ hs, inI (-BigG) BigG (.int x) = true := fun x hx => by
    obtain ⟨q1, q2⟩ := hok x hx
    show (decide (-BigG ≤ x) && decide (x ≤ BigG)) = true
    rw [decide_eq_true q1, decide_eq_true q2]; rfl
  have inW : ∀ x ∈ ws, inI 1 BigG (.int x) = true := fun x hx => by
    obtain ⟨q1, q2⟩ := wok x hx
    show (decide (1 ≤ x) && decide (x ≤ BigG)) = true
    rw [decide_eq_true q1, decide_eq_true q2]; rfl
  have szH : ∀ x ∈ hs, x.natAbs < 10 ^ 35 := fun x hx => by
    obtain ⟨q1, q2⟩ := hok x hx
    show x.natAbs < 100000000000000000000000000000000000
    omega
  have szW : ∀ x ∈ ws, x.natAbs < 10 ^ 35 := fun x hx => by
    obtain ⟨q1, q2⟩ := wok x hx
    show x.natAbs < 100000000000000000000000000000000000
    omega
  walk_at "rv go"
  rw [elo]
  refine ⟨d, c, ha, hs, -BigG, rfl, D3, had, hh3, l1, l60, .inl rfl, fun t1 ya pa ys ps H4 b4 D4 t1d yad pad ht1 hy hp S1 F1 => ?_⟩
  refine ⟨t1, _, rfl, sq_tup ht1, rfl, _, _, rfl, ?_⟩
  refine ⟨_, _, rfl, rfl, ?_⟩
  walk_at "rv go"
  refine ⟨d, c, hw, ws, 1, rfl, D4, hwd, b4 _ _ hwd hhw, by omega, by omega, .inr rfl, fun t2 yw pw zs qs H5 b5 D5 t2d ywd pwd ht2 hyw hpw S2 F2 => ?_⟩
  refine ⟨t2, _, rfl, sq_tup ht2, rfl, _, _, rfl, ?_⟩
  refine ⟨_, _, rfl, rfl, ?_⟩
  walk_at "rv go"
  refine ⟨szl (by show 0 ≤ 100000; omega), fun p0 n0 => ?_⟩
  have e6 := same_new (o := .tup []) (Same.refl H5) n0
  have hp0 : (upd H5 p0 (.tup [])) p0 = some (.tup []) := upd_same
  have p0d := D5.nd n0
  have D6 := D5.new e6
  generalize upd H5 p0 (.tup []) = H6 at e6 hp0 D6 ⊢
  have hh6 := e6 _ _ (b5 _ _ had (b4 _ _ had hh3))
  have hw6 := e6 _ _ (b5 _ _ hwd (b4 _ _ hwd hhw))
  have B1 : ∀ {b : Option V}, ((ps = [] ∧ b = none) ∨ ∃ m, b = some (.int m) ∧ m ∈ ps ∧ ∀ p ∈ ps, m ≤ p) → BdV 1 60 (-BigG) hs d H6 (.ref ya) b := fun hb => (BdV.sp hy S1 F1 yad hb).but (b5.trans (But.same e6))
  have B2 : ∀ {b : Option V}, ((qs = [] ∧ b = none) ∨ ∃ m, b = some (.int m) ∧ m ∈ qs ∧ ∀ p ∈ qs, m ≤ p) → BdV hs.length hs.length 1 ws d H6 (.ref yw) b := fun hb => (BdV.sp hyw S2 F2 ywd hb).but (But.same e6)
  have hp6 := e6 _ _ (b5 _ _ pad hp)
  have hpw6 := e6 _ _ hpw
  have ft : ∀ {m : Int} {l : List Int} {n : Nat}, (∀ p ∈ l, 0 ≤ p ∧ p < (n : Int)) → m ∈ l → (V.int m = .non ∨ ∃ i : Nat, V.int m = .int (i : Int)) := fun {m l n} h hm => .inr ⟨m.toNat, by have := (h m hm).1; rw [Int.toNat_of_nonneg this]⟩
  refine w_gn ?_
  refine st_is [some (.ref a), some (.ref d), some (.ref ha), some (.int (hs.length : Int)), some (.ref hw), some (.ref ya), some (.ref pa), some (.ref yw), some (.ref pw), some (.ref p0), none] rfl ?_
  -- 1: the places of the widths
  refine w_cut (fun σ' H' => ∃ r D bw, σ' = [some (.ref a), some (.ref d), some (.ref ha), some (.int (hs.length : Int)), some (.ref hw), some (.ref ya), some (.ref pa), some (.ref yw), some (.ref pw), some (.ref r), none] ∧ But d H6 H' ∧ DrawsAt H' d c ∧ BdV hs.length hs.length 1 ws d H' (.ref yw) bw ∧ Due K H' d r D none bw) (fun N key => ?_) ?_
  · refine w_ifs ?_
    walk_at "rv go"
    refine ⟨szl (by show 0 ≤ 100000; omega), fun l0 nl0 => ?_⟩
    have e7 := same_new (o := .lst []) (Same.refl H6) nl0
    have q0 : (upd H6 l0 (.lst [])) l0 = some (.lst []) := upd_same
    generalize upd H6 l0 (.lst []) = H7 at e7 q0 ⊢
    refine neD_nil (e7 _ _ hpw6) q0 ?_
    walk_at "rv go"
    by_cases z : qs = []
    · rw [decide_eq_true z]
      walk_at "rv go"
      exact key _ _ ⟨p0, .tuple [], none, rfl, But.same e7, D6.new e7, (B2 (.inl ⟨z, rfl⟩)).but (But.same e7), p0d, rfl, .inl ⟨rfl, e7 _ _ hp0⟩⟩
    · rw [decide_eq_false z]
      walk_at "rv go"
      refine ⟨pw, qs, rfl, e7 _ _ hpw6, z, by have := S2.pl; omega, fun m hm hmin => ?_⟩
      walk_at "rv go"
      refine ⟨szl (by show 5 ≤ 100000; omega), fun r nr => ?_⟩
      have e8 := same_new (o := .tup [.str "widths", .int m, .bl true, .bl true, .bl false]) (Same.refl H7) nr
      walk_at "rv go"
      exact key _ _ ⟨r, _, some (.int m), rfl, But.same (e7.trans e8), (D6.new e7).new e8, (B2 (.inr ⟨m, rfl, hm, hmin⟩)).but (But.same (e7.trans e8)), (D6.new e7).nd nr, rfl, .inr ⟨"widths", .int m, rfl, .inr rfl, by decide, upd_same, ft S2.pr hm⟩⟩
  rintro σ7 H7 ⟨r1, Dd1, bw1, rfl, b7, D7, V7, U7⟩
  -- 2: perhaps the widths as a whole
  refine w_cut (fun σ' H' => ∃ vw r D bw, σ' = [some (.ref a), some (.ref d), some (.ref ha), some (.int (hs.length : Int)), some (.ref hw), some (.ref ya), some (.ref pa), some vw, some (.ref pw), some (.ref r), none] ∧ But d H6 H' ∧ DrawsAt H' d c ∧ BdV hs.length hs.length 1 ws d H' vw bw ∧ Due K H' d r D none bw) (fun N key => ?_) ?_
  · refine w_ifs ?_
    walk_at "rv go"
    refine draw_call D7 (by decide) (by decide) fun x H8 x0 x1 b8 D8 => ?_
    walk_at "rv go"
    by_cases z : x = 4
    · rw [decide_eq_true z]
      walk_at "rv go"
      refine ⟨d, c, hw, ws, _, _, rfl, D8, hwd, b8 _ _ hwd (b7 _ _ hwd hw6), by omega, szW, by omega, Int.le_refl _, by omega, fun v H9 b9 D9 wv fv => ?_⟩
      walk_at "rv go"
      refine ⟨szl (by show 5 ≤ 100000; omega), fun r nr => ?_⟩
      have e10 := same_new (o := .tup [.str "widths", .non, .bl true, .bl true, .bl false]) (Same.refl H9) nr
      walk_at "rv go"
      exact key _ _ ⟨v, r, _, some .non, rfl, ((b7.trans b8).trans b9).trans (But.same e10), D9.new e10, (BdV.wh wv fv).but (But.same e10), D9.nd nr, rfl, .inr ⟨"widths", .non, rfl, .inr rfl, by decide, upd_same, .inl rfl⟩⟩
    · rw [decide_eq_false z]
      walk_at "rv go"
      exact key _ _ ⟨.ref yw, r1, _, bw1, rfl, b7.trans b8, D8, V7.but b8, U7.but b8⟩
  rintro σ8 H8 ⟨vw, r2, Dd2, bw, rfl, b8, D8, V8, U8⟩
  clear V7 U7 D7 b7
  -- 3: the places of the heights
  refine w_cut (fun σ' H' => ∃ r D bh, σ' = [some (.ref a), some (.ref d), some (.ref ha), some (.int (hs.length : Int)), some (.ref hw), some (.ref ya), some (.ref pa), some vw, some (.ref pw), some (.ref r), none] ∧ But d H6 H' ∧ DrawsAt H' d c ∧ BdV hs.length hs.length 1 ws d H' vw bw ∧ BdV 1 60 (-BigG) hs d H' (.ref ya) bh ∧ Due K H' d r D bh bw) (fun N key => ?_) ?_
  · refine w_ifs ?_
    walk_at "rv go"
    refine ⟨szl (by show 0 ≤ 100000; omega), fun l0 nl0 => ?_⟩
    have e9 := same_new (o := .lst []) (Same.refl H8) nl0
    have q0 : (upd H8 l0 (.lst [])) l0 = some (.lst []) := upd_same
    generalize upd H8 l0 (.lst []) = H9 at e9 q0 ⊢
    have hp9 := e9 _ _ (b8 _ _ pad hp6)
    refine neD_nil hp9 q0 ?_
    walk_at "rv go"
    by_cases z : ps = []
    · rw [decide_eq_true z]
      walk_at "rv go"
      exact key _ _ ⟨r2, Dd2, none, rfl, b8.trans (But.same e9), D8.new e9, V8.but (But.same e9), (B1 (.inl ⟨z, rfl⟩)).but (b8.trans (But.same e9)), U8.but (But.same e9)⟩
    · rw [decide_eq_false z]
      walk_at "rv go"
      refine ⟨pa, ps, rfl, hp9, z, by have := S1.pl; omega, fun m hm hmin => ?_⟩
      walk_at "rv go"
      refine ⟨szl (by show 5 ≤ 100000; omega), fun r nr => ?_⟩
      have e10 := same_new (o := .tup [.str "heights", .int m, .bl true, .bl true, .bl false]) (Same.refl H9) nr
      have bb := b8.trans (But.same (e9.trans e10))
      walk_at "rv go"
      exact key _ _ ⟨r, _, some (.int m), rfl, bb, (D8.new e9).new e10, V8.but (But.same (e9.trans e10)), (B1 (.inr ⟨m, rfl, hm, hmin⟩)).but bb, (D8.new e9).nd nr, rfl, .inr ⟨"heights", .int m, rfl, .inl rfl, by simp, upd_same, ft S1.pr hm⟩⟩
  rintro σ9 H9 ⟨r3, Dd3, bh3, rfl, b9, D9, V9, W9, U9⟩
  clear V8 U8 D8 b8
  -- 4: perhaps the heights as a whole
  refine w_cut (fun σ' H' => ∃ vh r D bh, σ' = [some (.ref a), some (.ref d), some (.ref ha), some (.int (hs.length : Int)), some (.ref hw), some vh, some (.ref pa), some vw, some (.ref pw), some (.ref r), none] ∧ But d H6 H' ∧ BdV hs.length hs.length 1 ws d H' vw bw ∧ BdV 1 60 (-BigG) hs d H' vh bh ∧ Due K H' d r D bh bw) (fun N key => ?_) ?_
  · refine w_ifs ?_
    walk_at "rv go"
    refine draw_call D9 (by decide) (by decide) fun x H10 x0 x1 b10 D10 => ?_
    walk_at "rv go"
    by_cases z : x = 4
    · rw [decide_eq_true z]
      walk_at "rv go"
      refine ⟨d, c, ha, hs, _, _, rfl, D10, had, b10 _ _ had (b9 _ _ had hh6), l1, szH, by omega, by omega, by omega, fun v H11 b11 D11 wv fv => ?_⟩
      walk_at "rv go"
      refine ⟨szl (by show 5 ≤ 100000; omega), fun r nr => ?_⟩
      have e12 := same_new (o := .tup [.str "heights", .non, .bl true, .bl true, .bl false]) (Same.refl H11) nr
      walk_at "rv go"
      exact key _ _ ⟨v, r, _, some .non, rfl, ((b9.trans b10).trans b11).trans (But.same e12), (V9.but (b10.trans b11)).but (But.same e12), (BdV.wh wv fv).but (But.same e12), D11.nd nr, rfl, .inr ⟨"heights", .non, rfl, .inl rfl, by simp, upd_same, .inl rfl⟩⟩
    · rw [decide_eq_false z]
      walk_at "rv go"
      exact key _ _ ⟨.ref ya, r3, _, bh3, rfl, b9.trans b10, V9.but b10, W9.but b10, U9.but b10⟩
  rintro σ10 H10 ⟨vh, r, DD, bh, rfl, b10, V10, W10, U10⟩
  clear V9 U9 D9 b9 W9
  obtain ⟨oh, rvh, ith, ebh, nnh, lnh, _, ddh, qh, gh⟩ := W10.row (K := K) inH (by omega) (by omega) l60 szH
  obtain ⟨ow, rvw, itw, ebw, nnw, lnw, _, ddw, qw, gw⟩ := V10.row (K := K) inW (by omega) (by omega) (by omega) szW
  have MA : dMade oh vw ow = DD := (made_all ebh nnw ebw lnh).trans U10.eq.symm
  have shD : SeqAt.shaped DD = true := by rw [U10.eq]; exact sh_dAll bh bw
  have rep : ∀ {H' : Hp} {l : Addr} {Q' : VK}, Same H10 H' → H' l = some (.lst [vh, vw]) → Q' (.str (PyData.list [ddh, ddw]).shown) H' → cReprD K [.ref l] H' Q' := fun {H' l Q'} e hl q => by
    have ls : PyData.leavesShort 50 (.list [ddh, ddw]) = true := by simp [PyData.leavesShort, PyData.leavesShortAll, gh.ls, gw.ls]
    have le := PyData.shown_le_bulk 50 (by decide) _ ls
    have sb := sizeLine_big
    have g1 := gh.bk
    have g2 := gw.bk
    have g3 := gh.dp
    have g4 := gw.dp
    refine ⟨l, _, rfl, SD, .lst (sq_lst hl) (.cons (dq_same e _ _ qh) (.cons (dq_same e _ _ qw) .nil)), by simp [PyData.showable, PyData.showableAll, gh.sh, gw.sh], ?_, ?_, q⟩
    · simp only [PyData.depth, PyData.depthAll]; omega
    · simp only [PyData.bulk, PyData.bulkAll] at le; omega
  walk_at "rv go"
  refine ⟨szl (by show 2 ≤ 100000; omega), fun l nl => ?_⟩
  have e11 := same_new (o := .lst [vh, vw]) (Same.refl H10) nl
  have hl : (upd H10 l (.lst [vh, vw])) l = some (.lst [vh, vw]) := upd_same
  generalize upd H10 l (.lst [vh, vw]) = H11 at e11 hl ⊢
  walk_at "rv go"
  refine rep e11 hl ?_
  refine w_gn ?_
  refine st_is [some (.ref a), some (.ref d), some (.ref ha), some (.int (hs.length : Int)), some (.ref hw), some vh, some (.ref pa), some vw, some (.ref pw), some (.ref r), some (.str (PyData.list [ddh, ddw]).shown)] rfl ?_
  refine w_seq ?_
  walk_at "rv go"
  refine ⟨vh, vw, oh, ow, rfl, P, X, rvh.same e11, ith.same e11, rvw.same e11, itw.same e11, fun m H12 e12 dm => ?_⟩
  rw [MA] at dm
  have e012 := e11.trans e12
  walk_at "rv go"
  refine neD_same dm (U10.but (But.same e012)).dp shD ?_
  walk_at "rv go"
  refine ⟨szl (by show 2 ≤ 100000; omega), fun l2 nl2 => ?_⟩
  have e13 := same_new (o := .lst [vh, vw]) (Same.refl H12) nl2
  have hl2 : (upd H12 l2 (.lst [vh, vw])) l2 = some (.lst [vh, vw]) := upd_same
  generalize upd H12 l2 (.lst [vh, vw]) = H13 at e13 hl2 ⊢
  have e013 := e012.trans e13
  walk_at "rv go"
  refine rep e013 hl2 ?_
  walk_at "rv go"
  refine w_neR rfl rfl ?_
  walk_at "rv go"
  have hh13 := e013 _ _ (b10 _ _ had hh6)
  have hw13 := e013 _ _ (b10 _ _ hwd hw6)
  have oddN : ∀ {H' : Hp}, RowV K H' .non none ∧ Items K H' none := fun {H'} => ⟨.other (.base .non) (kitNo (kit_ty (by decide +kernel)) (kit_ty (by decide +kernel))), fun _ e => nomatch e⟩
  have fineH : badR 1 60 (-BigG) BigG (some (hs.map V.int)) = none := badR_ints (by omega) (by omega) inH
  have fineW : badR hs.length hs.length 1 BigG (some (ws.map V.int)) = none := badR_ints (by omega) (by omega) inW
  have itm : ∀ {H' : Hp} (zs : List Int), Items K H' (some (zs.map V.int)) := fun {H'} zs ys ey x hx => by
    cases ey
    obtain ⟨z, _, rfl⟩ := List.mem_map.mp hx
    exact .int z
  have last : ∀ {H' : Hp} {σ : L2.St}, Same H13 H' → σ[2]? = some (some (.ref ha)) → σ[4]? = some (some (.ref hw)) → tRet (tAndV (tOp (rEqD K) (tCall (spMade12 K C CH CW CE) [] E0 (tCons (tVar 2) (tCons (tVar 4) tNil))) (tTup tNil)) (tOp (rEqD K) (tCall (spMade12 K C CH CW CE) [] E0 (tCons (tCB (cTuple K) (tCons (tVar 2) tNil)) (tCons (tC .non) tNil))) (tTup tNil))) { nx := fun _ H' => Q .non H', rt := Q } σ H' := by
    intro H' σ e s2 s4
    have eqq : ∀ {H'' : Hp} {x y : Addr} {Q' : VK}, Dp K H'' (.ref x) (.tuple []) → H'' y = some (.tup []) → Q' (.bl true) H'' → rEqD K (.ref x) (.ref y) H'' Q' := fun h1 h2 q => ⟨_, _, h1, .tup (sq_tup h2) .nil, by decide +kernel, by decide +kernel, q⟩
    refine w_ret ?_
    refine w_andV ?_
    refine w_op ?_
    refine w_call ?_
    refine w_cons ?_
    refine w_var s2 ?_
    refine w_cons ?_
    refine w_var s4 ?_
    refine w_nil ?_
    refine ⟨.ref ha, .ref hw, some (hs.map V.int), some (ws.map V.int), rfl, P, X, .row (.inl (e _ _ hh13)), itm hs, .row (.inl (e _ _ hw13)), itm ws, fun m H'' e2 dm => ?_⟩
    rw [made_fine fineH (by unfold wBad; rw [if_neg (fun z => nomatch z)]; show badR (((hs.map V.int).length : Nat) : Int) (((hs.map V.int).length : Nat) : Int) 1 BigG _ = none; rw [List.length_map]; exact fineW)] at dm
    refine w_tup ?_
    refine w_nil ?_
    refine ⟨szl (by show 0 ≤ 100000; omega), fun y ny => ?_⟩
    have e3 := same_new (o := .tup []) (Same.refl H'') ny
    refine eqq (dp_same e3 _ _ dm) upd_same ?_
    generalize upd H'' y (.tup []) = H3 at e3 ⊢
    refine ⟨true, rfl, ?_⟩
    refine iteT ?_
    refine w_op ?_
    refine w_call ?_
    refine w_cons ?_
    refine w_cb ?_
    refine w_cons ?_
    refine w_var s2 ?_
    refine w_nil ?_
    have e03 := (e.trans e2).trans e3
    refine ⟨ha, _, rfl, .inl ⟨sq_lst (e03 _ _ hh13), fun t nt => ?_⟩⟩
    refine w_cons ?_
    refine w_c ?_
    refine w_nil ?_
    refine ⟨.ref t, .non, some (hs.map V.int), none, rfl, P, X, .row (.inr upd_same), itm hs, oddN.1, oddN.2, fun m2 H4 e4 dm2 => ?_⟩
    rw [made_fine fineH (by unfold wBad; rw [if_pos rfl])] at dm2
    refine w_tup ?_
    refine w_nil ?_
    refine ⟨szl (by show 0 ≤ 100000; omega), fun y2 ny2 => ?_⟩
    have e5 := same_new (o := .tup []) (Same.refl H4) ny2
    exact eqq (dp_same e5 _ _ dm2) upd_same (k _)
  have U13 := U10.but (But.same e013)
  refine w_cut (fun σ' H' => Same H13 H' ∧ σ' = [some (.ref a), some (.ref d), some (.ref ha), some (.int (hs.length : Int)), some (.ref hw), some vh, some (.ref pa), some vw, some (.ref pw), some (.ref r), some (.str (PyData.list [ddh, ddw]).shown)]) (fun N key => ?_) (fun σ' H' ⟨e, es⟩ => by subst es; exact last e rfl rfl)
  refine w_ifs ?_
  walk_at "rv go"
  refine ⟨szl (by show 0 ≤ 100000; omega), fun y ny => ?_⟩
  have e14 := same_new (o := .tup []) (Same.refl H13) ny
  have hy14 : (upd H13 y (.tup [])) y = some (.tup []) := upd_same
  generalize upd H13 y (.tup []) = H14 at e14 hy14 ⊢
  have U14 := U13.but (But.same e14)
  rcases U14.tu with ⟨q1, q2⟩ | ⟨x, z, q1, q2, q3, q4, q5⟩
  · refine neD_same (d := .tuple []) (.tup (sq_tup q2) .nil) (.tup (sq_tup hy14) .nil) (by decide +kernel) ?_
    walk_at "rv go"
    exact key _ _ ⟨e14, rfl⟩
  · have sx : PyData.strOk x = true := by rcases q2 with rfl | rfl <;> decide +kernel
    refine ⟨dFt x (some z), .tuple [], dp_dft q4 q5, .tup (sq_tup hy14) .nil, sh_ft sx (some z), by decide +kernel, ?_⟩
    rw [show PyData.eqv (dFt x (some z)) (.tuple []) = false from rfl]
    walk_at "rv go"
    refine w_ixT (sq_tup q4) rfl ?_
    walk_at "rv go"
    rcases q2 with rfl | rfl
    · refine w_eqR rfl rfl ?_
      walk_at "rv go"
      have bhs : bh ≠ none := q3.mp rfl
      obtain ⟨zh, hzh⟩ : ∃ zh, bh = some zh := by
        cases bh with
        | none => exact absurd rfl bhs
        | some zh => exact ⟨zh, rfl⟩
      refine ⟨vh, .non, oh, none, rfl, P, X, rvh.same (e013.trans e14), ith.same (e013.trans e14), oddN.1, oddN.2, fun m H15 e15 dm => ?_⟩
      have em : dMade oh .non none = DD := (made_h (ebh.trans hzh)).trans (by rw [U10.eq, hzh]; rfl)
      rw [em] at dm
      walk_at "rv go"
      refine neD_same dm (U14.but (But.same e15)).dp shD ?_
      walk_at "rv go"
      exact key _ _ ⟨e14.trans e15, rfl⟩
    · refine ⟨rfl, ?_⟩
      rw [decide_eq_false (show ¬ V.str "widths" = V.str "heights" by intro z; exact absurd (V.str.inj z) (by decide +kernel))]
      walk_at "rv go"
      exact key _ _ ⟨e14, rfl⟩
end Rv
namespace Rv
open PySem PySem.Spec PyProof.Rows L2
theorem sc_InvalidProfile___init__ : FnScope ["self", "index"] ["self", "index"] (defScope s_InvalidProfile___init__) := ⟨rfl, rfl, rfl, by decide +kernel, rfl, by decide +kernel, by decide +kernel⟩
theorem d_InvalidProfile___init__ {P : Program} {w : World} {K : PySem.W.Frag} {mg : Str → Option Value} {base : Heap} {C_InvalidProfile : Addr} {CX : CXT} {f : Addr} {cdv : Value} {A : Around} {outer : List Env} {s : Shared} {H : Hp} {E : XK} (bg_RainError : BaseG K C_RainError "ValueError.__init__") (g_RainError : mg "RainError" = some (.ref C_RainError))
    (hr : Room 0 (A.deeper (envOfC "InvalidProfile.__init__" (defScope s_InvalidProfile___init__) s.heap.objs.size f cdv))) :
    PSs (cxOf CX P w K mg base ["self", "index"] "InvalidProfile.__init__" (defScope s_InvalidProfile___init__) f cdv A outer s H E) (defBody s_InvalidProfile___init__) (t_InvalidProfile___init__ K C_InvalidProfile) :=
  (pss_cons (ps_expr (pe_ownbaseG bg_RainError (by rfl) g_RainError (pa_cons (pv 0) (pa_cons pe_str pa_nil))))
    (pss_one (ps_fst (pv 0) (pv 1))))
theorem ok_InvalidProfile___init__ {P : Program} {w : World} {K : PySem.W.Frag} {mg : Str → Option Value} {base : Heap} {C_InvalidProfile : Addr} {f : Addr} {fd : FuncData} (F : FunD K "__init__" "InvalidProfile.__init__" (defArgs s_InvalidProfile___init__) (defBody s_InvalidProfile___init__) (defScope s_InvalidProfile___init__) [] [] f fd) (bg_RainError : BaseG K C_RainError "ValueError.__init__") (g_RainError : mg "RainError" = some (.ref C_RainError)) : FnOk P w K mg base CX0 1 f fd ["self", "index"] (spExc K C_InvalidProfile "ValueError" "ValueError.__new__" "ValueError.__init__" bm_ValueError "index") :=
  F.ok sc_InvalidProfile___init__ (fun vs H Q E h => by first | (obtain ⟨_, rfl, _⟩ := h; rfl) | (obtain ⟨_, _, rfl, _⟩ := h; rfl) | (obtain ⟨_, _, _, rfl, _⟩ := h; rfl) | (obtain ⟨_, _, _, _, rfl, _⟩ := h; rfl) | (obtain ⟨_, _, _, _, _, rfl, _⟩ := h; rfl) | (obtain ⟨_, _, _, _, _, _, rfl, _⟩ := h; rfl) | (obtain ⟨_, _, _, _, _, _, _, rfl, _⟩ := h; rfl) | (obtain ⟨_, _, _, _, _, _, _, _, rfl, _⟩ := h; rfl) | (obtain ⟨_, _, _, _, _, _, _, _, _, rfl, _⟩ := h; rfl) | (obtain ⟨_, _, _, _, _, _, _, _, _, _, rfl, _⟩ := h; rfl) | (obtain ⟨_, _, _, _, _, _, _, _, _, _, _, rfl, _⟩ := h; rfl) | (obtain ⟨_, _, _, _, _, _, _, _, _, _, _, _, rfl, _⟩ := h; rfl) | (obtain ⟨_, _, _, _, _, _, _, _, _, _, _, _, _, rfl, _⟩ := h; rfl) | (obtain ⟨_, _, _, _, _, _, _, _, _, _, _, _, _, _, rfl, _⟩ := h; rfl) | (obtain ⟨_, _, _, _, _, _, _, _, _, _, _, _, _, _, _, rfl, _⟩ := h; rfl) | (obtain ⟨_, _, _, _, _, _, _, _, _, _, _, _, _, _, _, _, rfl, _⟩ := h; rfl) | (obtain ⟨_, _, _, _, _, _, _, _, _, _, _, _, _, _, _, _, _, rfl, _⟩ := h; rfl) | (obtain ⟨_, _, _, _, _, _, _, _, _, _, _, _, _, _, _, _, _, _, rfl, _⟩ := h; rfl) | (obtain ⟨_, _, _, _, _, _, _, _, _, _, _, _, _, _, _, _, _, _, _, rfl, _⟩ := h; rfl) | (obtain ⟨_, _, _, _, _, _, _, _, _, _, _, _, _, _, _, _, _, _, _, _, rfl, _⟩ := h; rfl) | (obtain ⟨_, _, _, _, _, _, _, _, _, _, _, _, _, _, _, _, _, _, _, _, _, rfl, _⟩ := h; rfl) | (obtain ⟨_, _, _, _, _, _, _, _, _, _, _, _, _, _, _, _, _, _, _, _, _, _, rfl, _⟩ := h; rfl) | (obtain ⟨_, _, _, _, _, _, _, _, _, _, _, _, _, _, _, _, _, _, _, _, _, _, _, rfl, _⟩ := h; rfl) | (obtain ⟨_, _, _, _, _, _, _, _, _, _, _, _, _, _, _, _, _, _, _, _, _, _, _, _, rfl, _⟩ := h; rfl) | (obtain ⟨_, _, _, _, _, _, _, _, _, _, _, _, _, _, _, _, _, _, _, _, _, _, _, _, _, rfl, _⟩ := h; rfl)) (fun cdv A outer s H vs Q E hr h => ⟨_, d_InvalidProfile___init__ bg_RainError g_RainError hr, p_invH h⟩)
theorem sc_InvalidWidths___init__ : FnScope ["self", "index"] ["self", "index"] (defScope s_InvalidWidths___init__) := ⟨rfl, rfl, rfl, by decide +kernel, rfl, by decide +kernel, by decide +kernel⟩
theorem d_InvalidWidths___init__ {P : Program} {w : World} {K : PySem.W.Frag} {mg : Str → Option Value} {base : Heap} {C_InvalidWidths : Addr} {CX : CXT} {f : Addr} {cdv : Value} {A : Around} {outer : List Env} {s : Shared} {H : Hp} {E : XK} (bg_RainError : BaseG K C_RainError "ValueError.__init__") (g_RainError : mg "RainError" = some (.ref C_RainError))
    (hr : Room 0 (A.deeper (envOfC "InvalidWidths.__init__" (defScope s_InvalidWidths___init__) s.heap.objs.size f cdv))) :
    PSs (cxOf CX P w K mg base ["self", "index"] "InvalidWidths.__init__" (defScope s_InvalidWidths___init__) f cdv A outer s H E) (defBody s_InvalidWidths___init__) (t_InvalidWidths___init__ K C_InvalidWidths) :=
  (pss_cons (ps_expr (pe_ownbaseG bg_RainError (by rfl) g_RainError (pa_cons (pv 0) (pa_cons pe_str pa_nil))))
    (pss_one (ps_fst (pv 0) (pv 1))))
theorem ok_InvalidWidths___init__ {P : Program} {w : World} {K : PySem.W.Frag} {mg : Str → Option Value} {base : Heap} {C_InvalidWidths : Addr} {f : Addr} {fd : FuncData} (F : FunD K "__init__" "InvalidWidths.__init__" (defArgs s_InvalidWidths___init__) (defBody s_InvalidWidths___init__) (defScope s_InvalidWidths___init__) [] [] f fd) (bg_RainError : BaseG K C_RainError "ValueError.__init__") (g_RainError : mg "RainError" = some (.ref C_RainError)) : FnOk P w K mg base CX0 1 f fd ["self", "index"] (spExc K C_InvalidWidths "ValueError" "ValueError.__new__" "ValueError.__init__" bm_ValueError "index") :=
  F.ok sc_InvalidWidths___init__ (fun vs H Q E h => by first | (obtain ⟨_, rfl, _⟩ := h; rfl) | (obtain ⟨_, _, rfl, _⟩ := h; rfl) | (obtain ⟨_, _, _, rfl, _⟩ := h; rfl) | (obtain ⟨_, _, _, _, rfl, _⟩ := h; rfl) | (obtain ⟨_, _, _, _, _, rfl, _⟩ := h; rfl) | (obtain ⟨_, _, _, _, _, _, rfl, _⟩ := h; rfl) | (obtain ⟨_, _, _, _, _, _, _, rfl, _⟩ := h; rfl) | (obtain ⟨_, _, _, _, _, _, _, _, rfl, _⟩ := h; rfl) | (obtain ⟨_, _, _, _, _, _, _, _, _, rfl, _⟩ := h; rfl) | (obtain ⟨_, _, _, _, _, _, _, _, _, _, rfl, _⟩ := h; rfl) | (obtain ⟨_, _, _, _, _, _, _, _, _, _, _, rfl, _⟩ := h; rfl) | (obtain ⟨_, _, _, _, _, _, _, _, _, _, _, _, rfl, _⟩ := h; rfl) | (obtain ⟨_, _, _, _, _, _, _, _, _, _, _, _, _, rfl, _⟩ := h; rfl) | (obtain ⟨_, _, _, _, _, _, _, _, _, _, _, _, _, _, rfl, _⟩ := h; rfl) | (obtain ⟨_, _, _, _, _, _, _, _, _, _, _, _, _, _, _, rfl, _⟩ := h; rfl) | (obtain ⟨_, _, _, _, _, _, _, _, _, _, _, _, _, _, _, _, rfl, _⟩ := h; rfl) | (obtain ⟨_, _, _, _, _, _, _, _, _, _, _, _, _, _, _, _, _, rfl, _⟩ := h; rfl) | (obtain ⟨_, _, _, _, _, _, _, _, _, _, _, _, _, _, _, _, _, _, rfl, _⟩ := h; rfl) | (obtain ⟨_, _, _, _, _, _, _, _, _, _, _, _, _, _, _, _, _, _, _, rfl, _⟩ := h; rfl) | (obtain ⟨_, _, _, _, _, _, _, _, _, _, _, _, _, _, _, _, _, _, _, _, rfl, _⟩ := h; rfl) | (obtain ⟨_, _, _, _, _, _, _, _, _, _, _, _, _, _, _, _, _, _, _, _, _, rfl, _⟩ := h; rfl) | (obtain ⟨_, _, _, _, _, _, _, _, _, _, _, _, _, _, _, _, _, _, _, _, _, _, rfl, _⟩ := h; rfl) | (obtain ⟨_, _, _, _, _, _, _, _, _, _, _, _, _, _, _, _, _, _, _, _, _, _, _, rfl, _⟩ := h; rfl) | (obtain ⟨_, _, _, _, _, _, _, _, _, _, _, _, _, _, _, _, _, _, _, _, _, _, _, _, rfl, _⟩ := h; rfl) | (obtain ⟨_, _, _, _, _, _, _, _, _, _, _, _, _, _, _, _, _, _, _, _, _, _, _, _, _, rfl, _⟩ := h; rfl)) (fun cdv A outer s H vs Q E hr h => ⟨_, d_InvalidWidths___init__ bg_RainError g_RainError hr, p_invW h⟩)
theorem sc_is_whole : FnScope ["value"] ["value"] (defScope s_is_whole) := ⟨rfl, rfl, rfl, by decide +kernel, rfl, by decide +kernel, by decide +kernel⟩
theorem d_is_whole {P : Program} {w : World} {K : PySem.W.Frag} {mg : Str → Option Value} {base : Heap} {CX : CXT} {f : Addr} {cdv : Value} {A : Around} {outer : List Env} {s : Shared} {H : Hp} {E : XK} (m_int : mg "int" = none) (m_isinstance : mg "isinstance" = none) (m_bool : mg "bool" = none)
    (hr : Room 0 (A.deeper (envOfC "is_whole" (defScope s_is_whole) s.heap.objs.size f cdv))) :
    PSs (cxOf CX P w K mg base ["value"] "is_whole" (defScope s_is_whole) f cdv A outer s H E) (defBody s_is_whole) (t_is_whole K) :=
  (pss_one (ps_ret (pe_and (pe_callB call_isi (by rfl) m_isinstance (by decide +kernel) (pa_cons (pv 0) (pa_cons (pe_bltn (by rfl) m_int (by decide +kernel) rfl) pa_nil))) (pe_one (pe_not (pe_callB call_isi (by rfl) m_isinstance (by decide +kernel) (pa_cons (pv 0) (pa_cons (pe_bltn (by rfl) m_bool (by decide +kernel) rfl) pa_nil))))))))
theorem ok_is_whole {P : Program} {w : World} {K : PySem.W.Frag} {mg : Str → Option Value} {base : Heap} {f : Addr} {fd : FuncData} (F : FunD K "is_whole" "is_whole" (defArgs s_is_whole) (defBody s_is_whole) (defScope s_is_whole) [] [] f fd) (m_int : mg "int" = none) (m_isinstance : mg "isinstance" = none) (m_bool : mg "bool" = none) : FnOk P w K mg base CX0 1 f fd ["value"] (spWhole K) :=
  F.ok sc_is_whole (fun vs H Q E h => by first | (obtain ⟨_, rfl, _⟩ := h; rfl) | (obtain ⟨_, _, rfl, _⟩ := h; rfl) | (obtain ⟨_, _, _, rfl, _⟩ := h; rfl) | (obtain ⟨_, _, _, _, rfl, _⟩ := h; rfl) | (obtain ⟨_, _, _, _, _, rfl, _⟩ := h; rfl) | (obtain ⟨_, _, _, _, _, _, rfl, _⟩ := h; rfl) | (obtain ⟨_, _, _, _, _, _, _, rfl, _⟩ := h; rfl) | (obtain ⟨_, _, _, _, _, _, _, _, rfl, _⟩ := h; rfl) | (obtain ⟨_, _, _, _, _, _, _, _, _, rfl, _⟩ := h; rfl) | (obtain ⟨_, _, _, _, _, _, _, _, _, _, rfl, _⟩ := h; rfl) | (obtain ⟨_, _, _, _, _, _, _, _, _, _, _, rfl, _⟩ := h; rfl) | (obtain ⟨_, _, _, _, _, _, _, _, _, _, _, _, rfl, _⟩ := h; rfl) | (obtain ⟨_, _, _, _, _, _, _, _, _, _, _, _, _, rfl, _⟩ := h; rfl) | (obtain ⟨_, _, _, _, _, _, _, _, _, _, _, _, _, _, rfl, _⟩ := h; rfl) | (obtain ⟨_, _, _, _, _, _, _, _, _, _, _, _, _, _, _, rfl, _⟩ := h; rfl) | (obtain ⟨_, _, _, _, _, _, _, _, _, _, _, _, _, _, _, _, rfl, _⟩ := h; rfl) | (obtain ⟨_, _, _, _, _, _, _, _, _, _, _, _, _, _, _, _, _, rfl, _⟩ := h; rfl) | (obtain ⟨_, _, _, _, _, _, _, _, _, _, _, _, _, _, _, _, _, _, rfl, _⟩ := h; rfl) | (obtain ⟨_, _, _, _, _, _, _, _, _, _, _, _, _, _, _, _, _, _, _, rfl, _⟩ := h; rfl) | (obtain ⟨_, _, _, _, _, _, _, _, _, _, _, _, _, _, _, _, _, _, _, _, rfl, _⟩ := h; rfl) | (obtain ⟨_, _, _, _, _, _, _, _, _, _, _, _, _, _, _, _, _, _, _, _, _, rfl, _⟩ := h; rfl) | (obtain ⟨_, _, _, _, _, _, _, _, _, _, _, _, _, _, _, _, _, _, _, _, _, _, rfl, _⟩ := h; rfl) | (obtain ⟨_, _, _, _, _, _, _, _, _, _, _, _, _, _, _, _, _, _, _, _, _, _, _, rfl, _⟩ := h; rfl) | (obtain ⟨_, _, _, _, _, _, _, _, _, _, _, _, _, _, _, _, _, _, _, _, _, _, _, _, rfl, _⟩ := h; rfl) | (obtain ⟨_, _, _, _, _, _, _, _, _, _, _, _, _, _, _, _, _, _, _, _, _, _, _, _, _, rfl, _⟩ := h; rfl)) (fun cdv A outer s H vs Q E hr h => ⟨_, d_is_whole m_int m_isinstance m_bool hr, p_whole h⟩)
theorem sc_is_whole_within : FnScope ["value", "least", "greatest"] ["value", "least", "greatest"] (defScope s_is_whole_within) := ⟨rfl, rfl, rfl, by decide +kernel, rfl, by decide +kernel, by decide +kernel⟩
theorem d_is_whole_within {P : Program} {w : World} {K : PySem.W.Frag} {mg : Str → Option Value} {base : Heap} {CX : CXT} {f : Addr} {cdv : Value} {A : Around} {outer : List Env} {s : Shared} {H : Hp} {E : XK} (c_is_whole : Cal P w K mg base CX0 1 "is_whole" ["value"] (spWhole K))
    (hr : Room 1 (A.deeper (envOfC "is_whole_within" (defScope s_is_whole_within) s.heap.objs.size f cdv))) :
    PSs (cxOf CX P w K mg base ["value", "least", "greatest"] "is_whole_within" (defScope s_is_whole_within) f cdv A outer s H E) (defBody s_is_whole_within) (t_is_whole_within K) :=
  (pss_one (ps_ret (pe_and (pe_cal c_is_whole (hr.mono (by decide)) rfl pass0 (pa_cons (pv 0) pa_nil)) (pe_one (pe_chain op_le op_le (pv 1) (pv 0) (pv 2))))))
theorem ok_is_whole_within {P : Program} {w : World} {K : PySem.W.Frag} {mg : Str → Option Value} {base : Heap} {f : Addr} {fd : FuncData} (F : FunD K "is_whole_within" "is_whole_within" (defArgs s_is_whole_within) (defBody s_is_whole_within) (defScope s_is_whole_within) [] [] f fd) (c_is_whole : Cal P w K mg base CX0 1 "is_whole" ["value"] (spWhole K)) : FnOk P w K mg base CX0 2 f fd ["value", "least", "greatest"] (spWithin K) :=
  F.ok sc_is_whole_within (fun vs H Q E h => by first | (obtain ⟨_, rfl, _⟩ := h; rfl) | (obtain ⟨_, _, rfl, _⟩ := h; rfl) | (obtain ⟨_, _, _, rfl, _⟩ := h; rfl) | (obtain ⟨_, _, _, _, rfl, _⟩ := h; rfl) | (obtain ⟨_, _, _, _, _, rfl, _⟩ := h; rfl) | (obtain ⟨_, _, _, _, _, _, rfl, _⟩ := h; rfl) | (obtain ⟨_, _, _, _, _, _, _, rfl, _⟩ := h; rfl) | (obtain ⟨_, _, _, _, _, _, _, _, rfl, _⟩ := h; rfl) | (obtain ⟨_, _, _, _, _, _, _, _, _, rfl, _⟩ := h; rfl) | (obtain ⟨_, _, _, _, _, _, _, _, _, _, rfl, _⟩ := h; rfl) | (obtain ⟨_, _, _, _, _, _, _, _, _, _, _, rfl, _⟩ := h; rfl) | (obtain ⟨_, _, _, _, _, _, _, _, _, _, _, _, rfl, _⟩ := h; rfl) | (obtain ⟨_, _, _, _, _, _, _, _, _, _, _, _, _, rfl, _⟩ := h; rfl) | (obtain ⟨_, _, _, _, _, _, _, _, _, _, _, _, _, _, rfl, _⟩ := h; rfl) | (obtain ⟨_, _, _, _, _, _, _, _, _, _, _, _, _, _, _, rfl, _⟩ := h; rfl) | (obtain ⟨_, _, _, _, _, _, _, _, _, _, _, _, _, _, _, _, rfl, _⟩ := h; rfl) | (obtain ⟨_, _, _, _, _, _, _, _, _, _, _, _, _, _, _, _, _, rfl, _⟩ := h; rfl) | (obtain ⟨_, _, _, _, _, _, _, _, _, _, _, _, _, _, _, _, _, _, rfl, _⟩ := h; rfl) | (obtain ⟨_, _, _, _, _, _, _, _, _, _, _, _, _, _, _, _, _, _, _, rfl, _⟩ := h; rfl) | (obtain ⟨_, _, _, _, _, _, _, _, _, _, _, _, _, _, _, _, _, _, _, _, rfl, _⟩ := h; rfl) | (obtain ⟨_, _, _, _, _, _, _, _, _, _, _, _, _, _, _, _, _, _, _, _, _, rfl, _⟩ := h; rfl) | (obtain ⟨_, _, _, _, _, _, _, _, _, _, _, _, _, _, _, _, _, _, _, _, _, _, rfl, _⟩ := h; rfl) | (obtain ⟨_, _, _, _, _, _, _, _, _, _, _, _, _, _, _, _, _, _, _, _, _, _, _, rfl, _⟩ := h; rfl) | (obtain ⟨_, _, _, _, _, _, _, _, _, _, _, _, _, _, _, _, _, _, _, _, _, _, _, _, rfl, _⟩ := h; rfl) | (obtain ⟨_, _, _, _, _, _, _, _, _, _, _, _, _, _, _, _, _, _, _, _, _, _, _, _, _, rfl, _⟩ := h; rfl)) (fun cdv A outer s H vs Q E hr h => ⟨_, d_is_whole_within c_is_whole hr, p_within h⟩)
theorem sc_first_outside : FnScope ["values", "least", "greatest", "index", "value"] ["values", "least", "greatest"] (defScope s_first_outside) := ⟨rfl, rfl, rfl, by decide +kernel, rfl, by decide +kernel, by decide +kernel⟩
theorem d_first_outside {P : Program} {w : World} {K : PySem.W.Frag} {mg : Str → Option Value} {base : Heap} {CX : CXT} {f : Addr} {cdv : Value} {A : Around} {outer : List Env} {s : Shared} {H : Hp} {E : XK} (m_enumerate : mg "enumerate" = none) (c_is_whole_within : Cal P w K mg base CX0 2 "is_whole_within" ["value", "least", "greatest"] (spWithin K))
    (hr : Room 2 (A.deeper (envOfC "first_outside" (defScope s_first_outside) s.heap.objs.size f cdv))) :
    PSs (cxOf CX P w K mg base ["values", "least", "greatest", "index", "value"] "first_outside" (defScope s_first_outside) f cdv A outer s H E) (defBody s_first_outside) (t_first_outside K) :=
  (pss_cons (ps_for (passes_of rfl) rfl (pi_enumA (by rfl) m_enumerate (pa_cons (pv 0) pa_nil)) (pg_tup (by rfl) (pgs_cons (pg_name (i := 3) sc_first_outside.nd rfl (by first | exact Or.inl rfl | exact Or.inr rfl)) (pgs_cons (pg_name (i := 4) sc_first_outside.nd rfl (by first | exact Or.inl rfl | exact Or.inr rfl)) pgs_nil))) (pss_one (ps_if (pt_not (pt_val (pe_cal c_is_whole_within (hr.mono (by decide)) rfl pass0 (pa_cons (pv 4) (pa_cons (pv 1) (pa_cons (pv 2) pa_nil)))))) (pss_one (ps_ret (pv 3))) pss_nil)))
    (pss_one (ps_ret pe_non)))
theorem ok_first_outside {P : Program} {w : World} {K : PySem.W.Frag} {mg : Str → Option Value} {base : Heap} {f : Addr} {fd : FuncData} (F : FunD K "first_outside" "first_outside" (defArgs s_first_outside) (defBody s_first_outside) (defScope s_first_outside) [] [] f fd) (m_enumerate : mg "enumerate" = none) (c_is_whole_within : Cal P w K mg base CX0 2 "is_whole_within" ["value", "least", "greatest"] (spWithin K)) : FnOk P w K mg base CX0 3 f fd ["values", "least", "greatest"] (spOutside K) :=
  F.ok sc_first_outside (fun vs H Q E h => by first | (obtain ⟨_, rfl, _⟩ := h; rfl) | (obtain ⟨_, _, rfl, _⟩ := h; rfl) | (obtain ⟨_, _, _, rfl, _⟩ := h; rfl) | (obtain ⟨_, _, _, _, rfl, _⟩ := h; rfl) | (obtain ⟨_, _, _, _, _, rfl, _⟩ := h; rfl) | (obtain ⟨_, _, _, _, _, _, rfl, _⟩ := h; rfl) | (obtain ⟨_, _, _, _, _, _, _, rfl, _⟩ := h; rfl) | (obtain ⟨_, _, _, _, _, _, _, _, rfl, _⟩ := h; rfl) | (obtain ⟨_, _, _, _, _, _, _, _, _, rfl, _⟩ := h; rfl) | (obtain ⟨_, _, _, _, _, _, _, _, _, _, rfl, _⟩ := h; rfl) | (obtain ⟨_, _, _, _, _, _, _, _, _, _, _, rfl, _⟩ := h; rfl) | (obtain ⟨_, _, _, _, _, _, _, _, _, _, _, _, rfl, _⟩ := h; rfl) | (obtain ⟨_, _, _, _, _, _, _, _, _, _, _, _, _, rfl, _⟩ := h; rfl) | (obtain ⟨_, _, _, _, _, _, _, _, _, _, _, _, _, _, rfl, _⟩ := h; rfl) | (obtain ⟨_, _, _, _, _, _, _, _, _, _, _, _, _, _, _, rfl, _⟩ := h; rfl) | (obtain ⟨_, _, _, _, _, _, _, _, _, _, _, _, _, _, _, _, rfl, _⟩ := h; rfl) | (obtain ⟨_, _, _, _, _, _, _, _, _, _, _, _, _, _, _, _, _, rfl, _⟩ := h; rfl) | (obtain ⟨_, _, _, _, _, _, _, _, _, _, _, _, _, _, _, _, _, _, rfl, _⟩ := h; rfl) | (obtain ⟨_, _, _, _, _, _, _, _, _, _, _, _, _, _, _, _, _, _, _, rfl, _⟩ := h; rfl) | (obtain ⟨_, _, _, _, _, _, _, _, _, _, _, _, _, _, _, _, _, _, _, _, rfl, _⟩ := h; rfl) | (obtain ⟨_, _, _, _, _, _, _, _, _, _, _, _, _, _, _, _, _, _, _, _, _, rfl, _⟩ := h; rfl) | (obtain ⟨_, _, _, _, _, _, _, _, _, _, _, _, _, _, _, _, _, _, _, _, _, _, rfl, _⟩ := h; rfl) | (obtain ⟨_, _, _, _, _, _, _, _, _, _, _, _, _, _, _, _, _, _, _, _, _, _, _, rfl, _⟩ := h; rfl) | (obtain ⟨_, _, _, _, _, _, _, _, _, _, _, _, _, _, _, _, _, _, _, _, _, _, _, _, rfl, _⟩ := h; rfl) | (obtain ⟨_, _, _, _, _, _, _, _, _, _, _, _, _, _, _, _, _, _, _, _, _, _, _, _, _, rfl, _⟩ := h; rfl)) (fun cdv A outer s H vs Q E hr h => ⟨_, d_first_outside m_enumerate c_is_whole_within hr, p_outside h⟩)
theorem sc_is_row : FnScope ["values", "least", "most"] ["values", "least", "most"] (defScope s_is_row) := ⟨rfl, rfl, rfl, by decide +kernel, rfl, by decide +kernel, by decide +kernel⟩
theorem d_is_row {P : Program} {w : World} {K : PySem.W.Frag} {mg : Str → Option Value} {base : Heap} {CX : CXT} {f : Addr} {cdv : Value} {A : Around} {outer : List Env} {s : Shared} {H : Hp} {E : XK} (m_tuple : mg "tuple" = none) (m_list : mg "list" = none) (m_isinstance : mg "isinstance" = none) (m_len : mg "len" = none)
    (hr : Room 0 (A.deeper (envOfC "is_row" (defScope s_is_row) s.heap.objs.size f cdv))) :
    PSs (cxOf CX P w K mg base ["values", "least", "most"] "is_row" (defScope s_is_row) f cdv A outer s H E) (defBody s_is_row) (t_is_rowX12 K) :=
  (pss_one (ps_ret (pe_and (pe_callB call_isiT (by rfl) m_isinstance (by decide +kernel) (pa_cons (pv 0) (pa_cons (pe_tup (pa_cons (pe_bltn (by rfl) m_list (by decide +kernel) rfl) (pa_cons (pe_bltn (by rfl) m_tuple (by decide +kernel) rfl) pa_nil))) pa_nil))) (pe_one (pe_chain op_le op_le (pv 1) (pe_callB call_len_seq (by rfl) m_len (by decide +kernel) (pa_cons (pv 0) pa_nil)) (pv 2))))))
theorem ok_is_row {P : Program} {w : World} {K : PySem.W.Frag} {mg : Str → Option Value} {base : Heap} {f : Addr} {fd : FuncData} (F : FunD K "is_row" "is_row" (defArgs s_is_row) (defBody s_is_row) (defScope s_is_row) [] [] f fd) (m_tuple : mg "tuple" = none) (m_list : mg "list" = none) (m_isinstance : mg "isinstance" = none) (m_len : mg "len" = none) : FnOk P w K mg base CX0 1 f fd ["values", "least", "most"] (spRowX K) :=
  F.ok sc_is_row (fun vs H Q E h => by first | (obtain ⟨_, rfl, _⟩ := h; rfl) | (obtain ⟨_, _, rfl, _⟩ := h; rfl) | (obtain ⟨_, _, _, rfl, _⟩ := h; rfl) | (obtain ⟨_, _, _, _, rfl, _⟩ := h; rfl) | (obtain ⟨_, _, _, _, _, rfl, _⟩ := h; rfl) | (obtain ⟨_, _, _, _, _, _, rfl, _⟩ := h; rfl) | (obtain ⟨_, _, _, _, _, _, _, rfl, _⟩ := h; rfl) | (obtain ⟨_, _, _, _, _, _, _, _, rfl, _⟩ := h; rfl) | (obtain ⟨_, _, _, _, _, _, _, _, _, rfl, _⟩ := h; rfl) | (obtain ⟨_, _, _, _, _, _, _, _, _, _, rfl, _⟩ := h; rfl) | (obtain ⟨_, _, _, _, _, _, _, _, _, _, _, rfl, _⟩ := h; rfl) | (obtain ⟨_, _, _, _, _, _, _, _, _, _, _, _, rfl, _⟩ := h; rfl) | (obtain ⟨_, _, _, _, _, _, _, _, _, _, _, _, _, rfl, _⟩ := h; rfl) | (obtain ⟨_, _, _, _, _, _, _, _, _, _, _, _, _, _, rfl, _⟩ := h; rfl) | (obtain ⟨_, _, _, _, _, _, _, _, _, _, _, _, _, _, _, rfl, _⟩ := h; rfl) | (obtain ⟨_, _, _, _, _, _, _, _, _, _, _, _, _, _, _, _, rfl, _⟩ := h; rfl) | (obtain ⟨_, _, _, _, _, _, _, _, _, _, _, _, _, _, _, _, _, rfl, _⟩ := h; rfl) | (obtain ⟨_, _, _, _, _, _, _, _, _, _, _, _, _, _, _, _, _, _, rfl, _⟩ := h; rfl) | (obtain ⟨_, _, _, _, _, _, _, _, _, _, _, _, _, _, _, _, _, _, _, rfl, _⟩ := h; rfl) | (obtain ⟨_, _, _, _, _, _, _, _, _, _, _, _, _, _, _, _, _, _, _, _, rfl, _⟩ := h; rfl) | (obtain ⟨_, _, _, _, _, _, _, _, _, _, _, _, _, _, _, _, _, _, _, _, _, rfl, _⟩ := h; rfl) | (obtain ⟨_, _, _, _, _, _, _, _, _, _, _, _, _, _, _, _, _, _, _, _, _, _, rfl, _⟩ := h; rfl) | (obtain ⟨_, _, _, _, _, _, _, _, _, _, _, _, _, _, _, _, _, _, _, _, _, _, _, rfl, _⟩ := h; rfl) | (obtain ⟨_, _, _, _, _, _, _, _, _, _, _, _, _, _, _, _, _, _, _, _, _, _, _, _, rfl, _⟩ := h; rfl) | (obtain ⟨_, _, _, _, _, _, _, _, _, _, _, _, _, _, _, _, _, _, _, _, _, _, _, _, _, rfl, _⟩ := h; rfl)) (fun cdv A outer s H vs Q E hr h => ⟨_, d_is_row m_tuple m_list m_isinstance m_len hr, p_rowX h⟩)
theorem sc_check_heights : FnScope ["heights", "wrong"] ["heights"] (defScope s_check_heights) := ⟨rfl, rfl, rfl, by decide +kernel, rfl, by decide +kernel, by decide +kernel⟩
theorem d_check_heights {P : Program} {w : World} {K : PySem.W.Frag} {mg : Str → Option Value} {base : Heap} {C_InvalidProfile : Addr} {f : Addr} {cdv : Value} {A : Around} {outer : List Env} {s : Shared} {H : Hp} {E : XK} (m_MOST_COLUMNS : ∃ u, mg "MOST_COLUMNS" = some (.int 60 u)) (c_is_row : Cal P w K mg base CX0 1 "is_row" ["values", "least", "most"] (spRowX K)) (cx_InvalidProfile : CalX P w K mg base CX0 1 "InvalidProfile" C_InvalidProfile ["self", "index"] (spExc K C_InvalidProfile "ValueError" "ValueError.__new__" "ValueError.__init__" bm_ValueError "index") [] "ValueError" "ValueError.__new__" "ValueError.__init__" bm_ValueError) (m_GREATEST : ∃ u, mg "GREATEST" = some (.int 1000000000000000000000000000000 u)) (c_first_outside : Cal P w K mg base CX0 3 "first_outside" ["values", "least", "greatest"] (spOutside K))
    (hr : Room 3 (A.deeper (envOfC "check_heights" (defScope s_check_heights) s.heap.objs.size f cdv))) :
    PSs (cxOf (L2.CX P w) P w K mg base ["heights", "wrong"] "check_heights" (defScope s_check_heights) f cdv A outer s H E) (defBody s_check_heights) (t_check_heightsX K C_InvalidProfile E) :=
  (pss_cons (ps_if (pt_not (pt_val (pe_cal c_is_row (hr.mono (by decide)) rfl pass0 (pa_cons (pv 0) (pa_cons pe_int (pa_cons (pe_gint m_MOST_COLUMNS rfl) pa_nil)))))) (pss_one (ps_raiseE (pmk_cal cx_InvalidProfile (hr.mono (by decide)) pass0 (by rfl) (pa_cons pe_non pa_nil)) (takes_of rfl rfl rfl rfl))) pss_nil)
    (pss_cons (ps_set (i := 1) sc_check_heights.nd rfl (by first | exact Or.inl rfl | exact Or.inr rfl) (pe_cal c_first_outside (hr.mono (by decide)) rfl pass0 (pa_cons (pv 0) (pa_cons (pe_un un_neg (pe_gint m_GREATEST rfl)) (pa_cons (pe_gint m_GREATEST rfl) pa_nil)))))
    (pss_one (ps_if (pt_cmpR op_notN (pv 1) pe_non (nomark _)) (pss_one (ps_raiseE (pmk_cal cx_InvalidProfile (hr.mono (by decide)) pass0 (by rfl) (pa_cons (pv 1) pa_nil)) (takes_of rfl rfl rfl rfl))) pss_nil))))
theorem ok_check_heights {P : Program} {w : World} {K : PySem.W.Frag} {mg : Str → Option Value} {base : Heap} {C_InvalidProfile : Addr} {f : Addr} {fd : FuncData} (F : FunD K "check_heights" "check_heights" (defArgs s_check_heights) (defBody s_check_heights) (defScope s_check_heights) [] [] f fd) (m_MOST_COLUMNS : ∃ u, mg "MOST_COLUMNS" = some (.int 60 u)) (c_is_row : Cal P w K mg base CX0 1 "is_row" ["values", "least", "most"] (spRowX K)) (cx_InvalidProfile : CalX P w K mg base CX0 1 "InvalidProfile" C_InvalidProfile ["self", "index"] (spExc K C_InvalidProfile "ValueError" "ValueError.__new__" "ValueError.__init__" bm_ValueError "index") [] "ValueError" "ValueError.__new__" "ValueError.__init__" bm_ValueError) (m_GREATEST : ∃ u, mg "GREATEST" = some (.int 1000000000000000000000000000000 u)) (c_first_outside : Cal P w K mg base CX0 3 "first_outside" ["values", "least", "greatest"] (spOutside K)) : FnOk P w K mg base (L2.CX P w) 4 f fd ["heights"] (spChkHX K C_InvalidProfile) :=
  F.ok sc_check_heights (fun vs H Q E h => by first | (obtain ⟨_, rfl, _⟩ := h; rfl) | (obtain ⟨_, _, rfl, _⟩ := h; rfl) | (obtain ⟨_, _, _, rfl, _⟩ := h; rfl) | (obtain ⟨_, _, _, _, rfl, _⟩ := h; rfl) | (obtain ⟨_, _, _, _, _, rfl, _⟩ := h; rfl) | (obtain ⟨_, _, _, _, _, _, rfl, _⟩ := h; rfl) | (obtain ⟨_, _, _, _, _, _, _, rfl, _⟩ := h; rfl) | (obtain ⟨_, _, _, _, _, _, _, _, rfl, _⟩ := h; rfl) | (obtain ⟨_, _, _, _, _, _, _, _, _, rfl, _⟩ := h; rfl) | (obtain ⟨_, _, _, _, _, _, _, _, _, _, rfl, _⟩ := h; rfl) | (obtain ⟨_, _, _, _, _, _, _, _, _, _, _, rfl, _⟩ := h; rfl) | (obtain ⟨_, _, _, _, _, _, _, _, _, _, _, _, rfl, _⟩ := h; rfl) | (obtain ⟨_, _, _, _, _, _, _, _, _, _, _, _, _, rfl, _⟩ := h; rfl) | (obtain ⟨_, _, _, _, _, _, _, _, _, _, _, _, _, _, rfl, _⟩ := h; rfl) | (obtain ⟨_, _, _, _, _, _, _, _, _, _, _, _, _, _, _, rfl, _⟩ := h; rfl) | (obtain ⟨_, _, _, _, _, _, _, _, _, _, _, _, _, _, _, _, rfl, _⟩ := h; rfl) | (obtain ⟨_, _, _, _, _, _, _, _, _, _, _, _, _, _, _, _, _, rfl, _⟩ := h; rfl) | (obtain ⟨_, _, _, _, _, _, _, _, _, _, _, _, _, _, _, _, _, _, rfl, _⟩ := h; rfl) | (obtain ⟨_, _, _, _, _, _, _, _, _, _, _, _, _, _, _, _, _, _, _, rfl, _⟩ := h; rfl) | (obtain ⟨_, _, _, _, _, _, _, _, _, _, _, _, _, _, _, _, _, _, _, _, rfl, _⟩ := h; rfl) | (obtain ⟨_, _, _, _, _, _, _, _, _, _, _, _, _, _, _, _, _, _, _, _, _, rfl, _⟩ := h; rfl) | (obtain ⟨_, _, _, _, _, _, _, _, _, _, _, _, _, _, _, _, _, _, _, _, _, _, rfl, _⟩ := h; rfl) | (obtain ⟨_, _, _, _, _, _, _, _, _, _, _, _, _, _, _, _, _, _, _, _, _, _, _, rfl, _⟩ := h; rfl) | (obtain ⟨_, _, _, _, _, _, _, _, _, _, _, _, _, _, _, _, _, _, _, _, _, _, _, _, rfl, _⟩ := h; rfl) | (obtain ⟨_, _, _, _, _, _, _, _, _, _, _, _, _, _, _, _, _, _, _, _, _, _, _, _, _, rfl, _⟩ := h; rfl)) (fun cdv A outer s H vs Q E hr h => ⟨_, d_check_heights m_MOST_COLUMNS c_is_row cx_InvalidProfile m_GREATEST c_first_outside hr, p_chkHX h⟩)
theorem sc_check_widths : FnScope ["widths", "many", "wrong"] ["widths", "many"] (defScope s_check_widths) := ⟨rfl, rfl, rfl, by decide +kernel, rfl, by decide +kernel, by decide +kernel⟩
theorem d_check_widths {P : Program} {w : World} {K : PySem.W.Frag} {mg : Str → Option Value} {base : Heap} {C_InvalidWidths : Addr} {f : Addr} {cdv : Value} {A : Around} {outer : List Env} {s : Shared} {H : Hp} {E : XK} (c_is_row : Cal P w K mg base CX0 1 "is_row" ["values", "least", "most"] (spRowX K)) (cx_InvalidWidths : CalX P w K mg base CX0 1 "InvalidWidths" C_InvalidWidths ["self", "index"] (spExc K C_InvalidWidths "ValueError" "ValueError.__new__" "ValueError.__init__" bm_ValueError "index") [] "ValueError" "ValueError.__new__" "ValueError.__init__" bm_ValueError) (m_GREATEST : ∃ u, mg "GREATEST" = some (.int 1000000000000000000000000000000 u)) (c_first_outside : Cal P w K mg base CX0 3 "first_outside" ["values", "least", "greatest"] (spOutside K))
    (hr : Room 3 (A.deeper (envOfC "check_widths" (defScope s_check_widths) s.heap.objs.size f cdv))) :
    PSs (cxOf (L2.CX P w) P w K mg base ["widths", "many", "wrong"] "check_widths" (defScope s_check_widths) f cdv A outer s H E) (defBody s_check_widths) (t_check_widthsX K C_InvalidWidths E) :=
  (pss_cons (ps_if (pt_not (pt_val (pe_cal c_is_row (hr.mono (by decide)) rfl pass0 (pa_cons (pv 0) (pa_cons (pv 1) (pa_cons (pv 1) pa_nil)))))) (pss_one (ps_raiseE (pmk_cal cx_InvalidWidths (hr.mono (by decide)) pass0 (by rfl) (pa_cons pe_non pa_nil)) (takes_of rfl rfl rfl rfl))) pss_nil)
    (pss_cons (ps_set (i := 2) sc_check_widths.nd rfl (by first | exact Or.inl rfl | exact Or.inr rfl) (pe_cal c_first_outside (hr.mono (by decide)) rfl pass0 (pa_cons (pv 0) (pa_cons pe_int (pa_cons (pe_gint m_GREATEST rfl) pa_nil)))))
    (pss_one (ps_if (pt_cmpR op_notN (pv 2) pe_non (nomark _)) (pss_one (ps_raiseE (pmk_cal cx_InvalidWidths (hr.mono (by decide)) pass0 (by rfl) (pa_cons (pv 2) pa_nil)) (takes_of rfl rfl rfl rfl))) pss_nil))))
theorem ok_check_widths {P : Program} {w : World} {K : PySem.W.Frag} {mg : Str → Option Value} {base : Heap} {C_InvalidWidths : Addr} {f : Addr} {fd : FuncData} (F : FunD K "check_widths" "check_widths" (defArgs s_check_widths) (defBody s_check_widths) (defScope s_check_widths) [] [] f fd) (c_is_row : Cal P w K mg base CX0 1 "is_row" ["values", "least", "most"] (spRowX K)) (cx_InvalidWidths : CalX P w K mg base CX0 1 "InvalidWidths" C_InvalidWidths ["self", "index"] (spExc K C_InvalidWidths "ValueError" "ValueError.__new__" "ValueError.__init__" bm_ValueError "index") [] "ValueError" "ValueError.__new__" "ValueError.__init__" bm_ValueError) (m_GREATEST : ∃ u, mg "GREATEST" = some (.int 1000000000000000000000000000000 u)) (c_first_outside : Cal P w K mg base CX0 3 "first_outside" ["values", "least", "greatest"] (spOutside K)) : FnOk P w K mg base (L2.CX P w) 4 f fd ["widths", "many"] (spChkWX K C_InvalidWidths) :=
  F.ok sc_check_widths (fun vs H Q E h => by first | (obtain ⟨_, rfl, _⟩ := h; rfl) | (obtain ⟨_, _, rfl, _⟩ := h; rfl) | (obtain ⟨_, _, _, rfl, _⟩ := h; rfl) | (obtain ⟨_, _, _, _, rfl, _⟩ := h; rfl) | (obtain ⟨_, _, _, _, _, rfl, _⟩ := h; rfl) | (obtain ⟨_, _, _, _, _, _, rfl, _⟩ := h; rfl) | (obtain ⟨_, _, _, _, _, _, _, rfl, _⟩ := h; rfl) | (obtain ⟨_, _, _, _, _, _, _, _, rfl, _⟩ := h; rfl) | (obtain ⟨_, _, _, _, _, _, _, _, _, rfl, _⟩ := h; rfl) | (obtain ⟨_, _, _, _, _, _, _, _, _, _, rfl, _⟩ := h; rfl) | (obtain ⟨_, _, _, _, _, _, _, _, _, _, _, rfl, _⟩ := h; rfl) | (obtain ⟨_, _, _, _, _, _, _, _, _, _, _, _, rfl, _⟩ := h; rfl) | (obtain ⟨_, _, _, _, _, _, _, _, _, _, _, _, _, rfl, _⟩ := h; rfl) | (obtain ⟨_, _, _, _, _, _, _, _, _, _, _, _, _, _, rfl, _⟩ := h; rfl) | (obtain ⟨_, _, _, _, _, _, _, _, _, _, _, _, _, _, _, rfl, _⟩ := h; rfl) | (obtain ⟨_, _, _, _, _, _, _, _, _, _, _, _, _, _, _, _, rfl, _⟩ := h; rfl) | (obtain ⟨_, _, _, _, _, _, _, _, _, _, _, _, _, _, _, _, _, rfl, _⟩ := h; rfl) | (obtain ⟨_, _, _, _, _, _, _, _, _, _, _, _, _, _, _, _, _, _, rfl, _⟩ := h; rfl) | (obtain ⟨_, _, _, _, _, _, _, _, _, _, _, _, _, _, _, _, _, _, _, rfl, _⟩ := h; rfl) | (obtain ⟨_, _, _, _, _, _, _, _, _, _, _, _, _, _, _, _, _, _, _, _, rfl, _⟩ := h; rfl) | (obtain ⟨_, _, _, _, _, _, _, _, _, _, _, _, _, _, _, _, _, _, _, _, _, rfl, _⟩ := h; rfl) | (obtain ⟨_, _, _, _, _, _, _, _, _, _, _, _, _, _, _, _, _, _, _, _, _, _, rfl, _⟩ := h; rfl) | (obtain ⟨_, _, _, _, _, _, _, _, _, _, _, _, _, _, _, _, _, _, _, _, _, _, _, rfl, _⟩ := h; rfl) | (obtain ⟨_, _, _, _, _, _, _, _, _, _, _, _, _, _, _, _, _, _, _, _, _, _, _, _, rfl, _⟩ := h; rfl) | (obtain ⟨_, _, _, _, _, _, _, _, _, _, _, _, _, _, _, _, _, _, _, _, _, _, _, _, _, rfl, _⟩ := h; rfl)) (fun cdv A outer s H vs Q E hr h => ⟨_, d_check_widths c_is_row cx_InvalidWidths m_GREATEST c_first_outside hr, p_chkWX h⟩)
theorem sc_Profile___init__ : FnScope ["self", "heights", "widths"] ["self", "heights", "widths"] (defScope s_Profile___init__) := ⟨rfl, rfl, rfl, by decide +kernel, rfl, by decide +kernel, by decide +kernel⟩
theorem d_Profile___init__ {P : Program} {w : World} {K : PySem.W.Frag} {mg : Str → Option Value} {base : Heap} {C_Profile : Addr} {C_InvalidProfile : Addr} {C_InvalidWidths : Addr} {f : Addr} {cdv : Value} {A : Around} {outer : List Env} {s : Shared} {H : Hp} {E : XK} (c_check_heights : Cal P w K mg base (L2.CX P w) 4 "check_heights" ["heights"] (spChkHX K C_InvalidProfile)) (m_len : mg "len" = none) (c_check_widths : Cal P w K mg base (L2.CX P w) 4 "check_widths" ["widths", "many"] (spChkWX K C_InvalidWidths)) (m_tuple : mg "tuple" = none)
    (hr : Room 4 (A.deeper (envOfC "Profile.__init__" (defScope s_Profile___init__) s.heap.objs.size f cdv))) :
    PSs (cxOf (L2.CX P w) P w K mg base ["self", "heights", "widths"] "Profile.__init__" (defScope s_Profile___init__) f cdv A outer s H E) (defBody s_Profile___init__) (t_Profile___init__X K C_Profile C_InvalidProfile C_InvalidWidths E) :=
  (pss_cons (ps_expr (pe_cal c_check_heights (hr.mono (by decide)) rfl (passes_call (takes_of rfl rfl rfl rfl) (fun _ _ _ _ h => h)) (pa_cons (pv 1) pa_nil)))
    (pss_cons (ps_if (pt_cmpR op_isN (pv 2) pe_non (nomark _)) (pss_one (ps_set (i := 2) sc_Profile___init__.nd rfl (by first | exact Or.inl rfl | exact Or.inr rfl) (pe_op op_rep (pe_lst (pa_cons pe_int pa_nil)) (pe_callB call_len_seq (by rfl) m_len (by decide +kernel) (pa_cons (pv 1) pa_nil))))) pss_nil)
    (pss_cons (ps_expr (pe_cal c_check_widths (hr.mono (by decide)) rfl (passes_call (takes_of rfl rfl rfl rfl) (fun _ _ _ _ h => h)) (pa_cons (pv 2) (pa_cons (pe_callB call_len_seq (by rfl) m_len (by decide +kernel) (pa_cons (pv 1) pa_nil)) pa_nil))))
    (pss_cons (ps_fld (pv 0) (pe_callTy call_tuple_of (by rfl) m_tuple (by decide +kernel) (pa_cons (pv 1) pa_nil)) rfl)
    (pss_one (ps_fld (pv 0) (pe_callTy call_tuple_of (by rfl) m_tuple (by decide +kernel) (pa_cons (pv 2) pa_nil)) rfl))))))
theorem ok_Profile___init__ {P : Program} {w : World} {K : PySem.W.Frag} {mg : Str → Option Value} {base : Heap} {C_Profile : Addr} {C_InvalidProfile : Addr} {C_InvalidWidths : Addr} {f : Addr} {fd : FuncData} (F : FunD K "__init__" "Profile.__init__" (defArgs s_Profile___init__) (defBody s_Profile___init__) (defScope s_Profile___init__) [.non] [] f fd) (c_check_heights : Cal P w K mg base (L2.CX P w) 4 "check_heights" ["heights"] (spChkHX K C_InvalidProfile)) (m_len : mg "len" = none) (c_check_widths : Cal P w K mg base (L2.CX P w) 4 "check_widths" ["widths", "many"] (spChkWX K C_InvalidWidths)) (m_tuple : mg "tuple" = none) : FnOk P w K mg base (L2.CX P w) 5 f fd ["self", "heights", "widths"] (spInitX K C_Profile C_InvalidProfile C_InvalidWidths) :=
  F.ok sc_Profile___init__ (fun vs H Q E h => by first | (obtain ⟨_, rfl, _⟩ := h; rfl) | (obtain ⟨_, _, rfl, _⟩ := h; rfl) | (obtain ⟨_, _, _, rfl, _⟩ := h; rfl) | (obtain ⟨_, _, _, _, rfl, _⟩ := h; rfl) | (obtain ⟨_, _, _, _, _, rfl, _⟩ := h; rfl) | (obtain ⟨_, _, _, _, _, _, rfl, _⟩ := h; rfl) | (obtain ⟨_, _, _, _, _, _, _, rfl, _⟩ := h; rfl) | (obtain ⟨_, _, _, _, _, _, _, _, rfl, _⟩ := h; rfl) | (obtain ⟨_, _, _, _, _, _, _, _, _, rfl, _⟩ := h; rfl) | (obtain ⟨_, _, _, _, _, _, _, _, _, _, rfl, _⟩ := h; rfl) | (obtain ⟨_, _, _, _, _, _, _, _, _, _, _, rfl, _⟩ := h; rfl) | (obtain ⟨_, _, _, _, _, _, _, _, _, _, _, _, rfl, _⟩ := h; rfl) | (obtain ⟨_, _, _, _, _, _, _, _, _, _, _, _, _, rfl, _⟩ := h; rfl) | (obtain ⟨_, _, _, _, _, _, _, _, _, _, _, _, _, _, rfl, _⟩ := h; rfl) | (obtain ⟨_, _, _, _, _, _, _, _, _, _, _, _, _, _, _, rfl, _⟩ := h; rfl) | (obtain ⟨_, _, _, _, _, _, _, _, _, _, _, _, _, _, _, _, rfl, _⟩ := h; rfl) | (obtain ⟨_, _, _, _, _, _, _, _, _, _, _, _, _, _, _, _, _, rfl, _⟩ := h; rfl) | (obtain ⟨_, _, _, _, _, _, _, _, _, _, _, _, _, _, _, _, _, _, rfl, _⟩ := h; rfl) | (obtain ⟨_, _, _, _, _, _, _, _, _, _, _, _, _, _, _, _, _, _, _, rfl, _⟩ := h; rfl) | (obtain ⟨_, _, _, _, _, _, _, _, _, _, _, _, _, _, _, _, _, _, _, _, rfl, _⟩ := h; rfl) | (obtain ⟨_, _, _, _, _, _, _, _, _, _, _, _, _, _, _, _, _, _, _, _, _, rfl, _⟩ := h; rfl) | (obtain ⟨_, _, _, _, _, _, _, _, _, _, _, _, _, _, _, _, _, _, _, _, _, _, rfl, _⟩ := h; rfl) | (obtain ⟨_, _, _, _, _, _, _, _, _, _, _, _, _, _, _, _, _, _, _, _, _, _, _, rfl, _⟩ := h; rfl) | (obtain ⟨_, _, _, _, _, _, _, _, _, _, _, _, _, _, _, _, _, _, _, _, _, _, _, _, rfl, _⟩ := h; rfl) | (obtain ⟨_, _, _, _, _, _, _, _, _, _, _, _, _, _, _, _, _, _, _, _, _, _, _, _, _, rfl, _⟩ := h; rfl)) (fun cdv A outer s H vs Q E hr h => ⟨_, d_Profile___init__ c_check_heights m_len c_check_widths m_tuple hr, p_initX12 h⟩)
theorem sc__law_draws : FnScope ["_law_script"] ["_law_script"] (defScope s__law_draws) := ⟨rfl, rfl, rfl, by decide +kernel, rfl, by decide +kernel, by decide +kernel⟩
theorem d__law_draws {P : Program} {w : World} {K : PySem.W.Frag} {mg : Str → Option Value} {base : Heap} {CX : CXT} {f : Addr} {cdv : Value} {A : Around} {outer : List Env} {s : Shared} {H : Hp} {E : XK} 
    (hr : Room 0 (A.deeper (envOfC "_law_draws" (defScope s__law_draws) s.heap.objs.size f cdv))) :
    PSs (cxOf CX P w K mg base ["_law_script"] "_law_draws" (defScope s__law_draws) f cdv A outer s H E) (defBody s__law_draws) (t__law_draws K) :=
  (pss_one (ps_ret (pe_lst (pa_cons (pe_slice sl_list (pv 0) po_none (po_some pe_int)) (pa_cons pe_int (pa_cons pe_int (pa_cons pe_int pa_nil)))))))
theorem ok__law_draws {P : Program} {w : World} {K : PySem.W.Frag} {mg : Str → Option Value} {base : Heap} {f : Addr} {fd : FuncData} (F : FunD K "_law_draws" "_law_draws" (defArgs s__law_draws) (defBody s__law_draws) (defScope s__law_draws) [] [] f fd)  : FnOk P w K mg base CX0 1 f fd ["_law_script"] (spDraws K) :=
  F.ok sc__law_draws (fun vs H Q E h => by first | (obtain ⟨_, rfl, _⟩ := h; rfl) | (obtain ⟨_, _, rfl, _⟩ := h; rfl) | (obtain ⟨_, _, _, rfl, _⟩ := h; rfl) | (obtain ⟨_, _, _, _, rfl, _⟩ := h; rfl) | (obtain ⟨_, _, _, _, _, rfl, _⟩ := h; rfl) | (obtain ⟨_, _, _, _, _, _, rfl, _⟩ := h; rfl) | (obtain ⟨_, _, _, _, _, _, _, rfl, _⟩ := h; rfl) | (obtain ⟨_, _, _, _, _, _, _, _, rfl, _⟩ := h; rfl) | (obtain ⟨_, _, _, _, _, _, _, _, _, rfl, _⟩ := h; rfl) | (obtain ⟨_, _, _, _, _, _, _, _, _, _, rfl, _⟩ := h; rfl) | (obtain ⟨_, _, _, _, _, _, _, _, _, _, _, rfl, _⟩ := h; rfl) | (obtain ⟨_, _, _, _, _, _, _, _, _, _, _, _, rfl, _⟩ := h; rfl) | (obtain ⟨_, _, _, _, _, _, _, _, _, _, _, _, _, rfl, _⟩ := h; rfl) | (obtain ⟨_, _, _, _, _, _, _, _, _, _, _, _, _, _, rfl, _⟩ := h; rfl) | (obtain ⟨_, _, _, _, _, _, _, _, _, _, _, _, _, _, _, rfl, _⟩ := h; rfl) | (obtain ⟨_, _, _, _, _, _, _, _, _, _, _, _, _, _, _, _, rfl, _⟩ := h; rfl) | (obtain ⟨_, _, _, _, _, _, _, _, _, _, _, _, _, _, _, _, _, rfl, _⟩ := h; rfl) | (obtain ⟨_, _, _, _, _, _, _, _, _, _, _, _, _, _, _, _, _, _, rfl, _⟩ := h; rfl) | (obtain ⟨_, _, _, _, _, _, _, _, _, _, _, _, _, _, _, _, _, _, _, rfl, _⟩ := h; rfl) | (obtain ⟨_, _, _, _, _, _, _, _, _, _, _, _, _, _, _, _, _, _, _, _, rfl, _⟩ := h; rfl) | (obtain ⟨_, _, _, _, _, _, _, _, _, _, _, _, _, _, _, _, _, _, _, _, _, rfl, _⟩ := h; rfl) | (obtain ⟨_, _, _, _, _, _, _, _, _, _, _, _, _, _, _, _, _, _, _, _, _, _, rfl, _⟩ := h; rfl) | (obtain ⟨_, _, _, _, _, _, _, _, _, _, _, _, _, _, _, _, _, _, _, _, _, _, _, rfl, _⟩ := h; rfl) | (obtain ⟨_, _, _, _, _, _, _, _, _, _, _, _, _, _, _, _, _, _, _, _, _, _, _, _, rfl, _⟩ := h; rfl) | (obtain ⟨_, _, _, _, _, _, _, _, _, _, _, _, _, _, _, _, _, _, _, _, _, _, _, _, _, rfl, _⟩ := h; rfl)) (fun cdv A outer s H vs Q E hr h => ⟨_, d__law_draws  hr, p_draws h⟩)
theorem sc__law_draw : FnScope ["_law_draws_here", "_law_many", "_law_cells", "_law_value", "_law_cell", "_law_mixed"] ["_law_draws_here", "_law_many"] (defScope s__law_draw) := ⟨rfl, rfl, rfl, by decide +kernel, rfl, by decide +kernel, by decide +kernel⟩
theorem d__law_draw {P : Program} {w : World} {K : PySem.W.Frag} {mg : Str → Option Value} {base : Heap} {CX : CXT} {f : Addr} {cdv : Value} {A : Around} {outer : List Env} {s : Shared} {H : Hp} {E : XK} (m_len : mg "len" = none)
    (hr : Room 0 (A.deeper (envOfC "_law_draw" (defScope s__law_draw) s.heap.objs.size f cdv))) :
    PSs (cxOf CX P w K mg base ["_law_draws_here", "_law_many", "_law_cells", "_law_value", "_law_cell", "_law_mixed"] "_law_draw" (defScope s__law_draw) f cdv A outer s H E) (defBody s__law_draw) (t__law_draw K) :=
  (pss_cons (ps_set (i := 2) sc__law_draw.nd rfl (by first | exact Or.inl rfl | exact Or.inr rfl) (pe_ix ix_list (pv 0) pe_int (fun _ _ => rfl)))
    (pss_cons (ps_if (PW.pt (pw_and (pt_cmpR op_eq (pe_ix ix_list (pv 0) pe_int (fun _ _ => rfl)) pe_int (nomark _)) (pw_and (pt_cmpR op_lt (pe_ix ix_list (pv 0) pe_int (fun _ _ => rfl)) (pe_callB call_len_seq (by rfl) m_len (by decide +kernel) (pa_cons (pv 2) pa_nil)) (nomark _)) (pw_and1 (pt_cmpR op_ge (pe_ix ix_list (pv 2) (pe_ix ix_list (pv 0) pe_int (fun _ _ => rfl)) (fun _ _ => rfl)) (pe_op op_pow pe_int pe_int) (nomark _)))))) (pss_cons (ps_asg (pe_ix ix_list (pv 2) (pe_ix ix_list (pv 0) pe_int (fun _ _ => rfl)) (fun _ _ => rfl)) (pg_sub (pv 0) pe_int set_list))
    (pss_one (ps_asg (pe_op op_add (pe_ix ix_list (pv 0) pe_int (fun _ _ => rfl)) pe_int) (pg_sub (pv 0) pe_int set_list)))) pss_nil)
    (pss_cons (ps_if (pt_cmpR op_gt (pe_ix ix_list (pv 0) pe_int (fun _ _ => rfl)) pe_int (nomark _)) (pss_cons (ps_set (i := 3) sc__law_draw.nd rfl (by first | exact Or.inl rfl | exact Or.inr rfl) (pe_op op_mod (pe_ix ix_list (pv 0) pe_int (fun _ _ => rfl)) (pv 1)))
    (pss_cons (ps_asg (pe_op op_fdivW (pe_ix ix_list (pv 0) pe_int (fun _ _ => rfl)) (pv 1)) (pg_sub (pv 0) pe_int set_list))
    (pss_one (ps_ret (pv 3))))) pss_nil)
    (pss_cons (ps_set (i := 4) sc__law_draw.nd rfl (by first | exact Or.inl rfl | exact Or.inr rfl) pe_int)
    (pss_cons (ps_if (pt_cmpR op_lt (pe_ix ix_list (pv 0) pe_int (fun _ _ => rfl)) (pe_callB call_len_seq (by rfl) m_len (by decide +kernel) (pa_cons (pv 2) pa_nil)) (nomark _)) (pss_cons (ps_set (i := 4) sc__law_draw.nd rfl (by first | exact Or.inl rfl | exact Or.inr rfl) (pe_ix ix_list (pv 2) (pe_ix ix_list (pv 0) pe_int (fun _ _ => rfl)) (fun _ _ => rfl)))
    (pss_one (ps_asg (pe_op op_add (pe_ix ix_list (pv 0) pe_int (fun _ _ => rfl)) pe_int) (pg_sub (pv 0) pe_int set_list)))) pss_nil)
    (pss_cons (ps_asg (pe_op op_mod (pe_op op_add (pe_op op_add (pe_op op_mul (pe_ix ix_list (pv 0) pe_int (fun _ _ => rfl)) pe_int) (pe_op op_mod (pv 4) pe_int)) pe_int) pe_int) (pg_sub (pv 0) pe_int set_list))
    (pss_cons (ps_set (i := 5) sc__law_draw.nd rfl (by first | exact Or.inl rfl | exact Or.inr rfl) (pe_op op_mod (pe_op op_pow (pe_ix ix_list (pv 0) pe_int (fun _ _ => rfl)) pe_int) pe_int))
    (pss_cons (ps_if (pt_cmpR op_gt (pv 1) (pe_op op_pow pe_int pe_int) (nomark _)) (pss_one (ps_set (i := 5) sc__law_draw.nd rfl (by first | exact Or.inl rfl | exact Or.inr rfl) (pe_op op_add (pe_op op_pow (pv 5) pe_int) (pv 5)))) pss_nil)
    (pss_one (ps_ret (pe_op op_mod (pv 5) (pv 1))))))))))))
theorem ok__law_draw {P : Program} {w : World} {K : PySem.W.Frag} {mg : Str → Option Value} {base : Heap} {f : Addr} {fd : FuncData} (F : FunD K "_law_draw" "_law_draw" (defArgs s__law_draw) (defBody s__law_draw) (defScope s__law_draw) [] [] f fd) (m_len : mg "len" = none) : FnOk P w K mg base CX0 1 f fd ["_law_draws_here", "_law_many"] (spDraw K) :=
  F.ok sc__law_draw (fun vs H Q E h => by first | (obtain ⟨_, rfl, _⟩ := h; rfl) | (obtain ⟨_, _, rfl, _⟩ := h; rfl) | (obtain ⟨_, _, _, rfl, _⟩ := h; rfl) | (obtain ⟨_, _, _, _, rfl, _⟩ := h; rfl) | (obtain ⟨_, _, _, _, _, rfl, _⟩ := h; rfl) | (obtain ⟨_, _, _, _, _, _, rfl, _⟩ := h; rfl) | (obtain ⟨_, _, _, _, _, _, _, rfl, _⟩ := h; rfl) | (obtain ⟨_, _, _, _, _, _, _, _, rfl, _⟩ := h; rfl) | (obtain ⟨_, _, _, _, _, _, _, _, _, rfl, _⟩ := h; rfl) | (obtain ⟨_, _, _, _, _, _, _, _, _, _, rfl, _⟩ := h; rfl) | (obtain ⟨_, _, _, _, _, _, _, _, _, _, _, rfl, _⟩ := h; rfl) | (obtain ⟨_, _, _, _, _, _, _, _, _, _, _, _, rfl, _⟩ := h; rfl) | (obtain ⟨_, _, _, _, _, _, _, _, _, _, _, _, _, rfl, _⟩ := h; rfl) | (obtain ⟨_, _, _, _, _, _, _, _, _, _, _, _, _, _, rfl, _⟩ := h; rfl) | (obtain ⟨_, _, _, _, _, _, _, _, _, _, _, _, _, _, _, rfl, _⟩ := h; rfl) | (obtain ⟨_, _, _, _, _, _, _, _, _, _, _, _, _, _, _, _, rfl, _⟩ := h; rfl) | (obtain ⟨_, _, _, _, _, _, _, _, _, _, _, _, _, _, _, _, _, rfl, _⟩ := h; rfl) | (obtain ⟨_, _, _, _, _, _, _, _, _, _, _, _, _, _, _, _, _, _, rfl, _⟩ := h; rfl) | (obtain ⟨_, _, _, _, _, _, _, _, _, _, _, _, _, _, _, _, _, _, _, rfl, _⟩ := h; rfl) | (obtain ⟨_, _, _, _, _, _, _, _, _, _, _, _, _, _, _, _, _, _, _, _, rfl, _⟩ := h; rfl) | (obtain ⟨_, _, _, _, _, _, _, _, _, _, _, _, _, _, _, _, _, _, _, _, _, rfl, _⟩ := h; rfl) | (obtain ⟨_, _, _, _, _, _, _, _, _, _, _, _, _, _, _, _, _, _, _, _, _, _, rfl, _⟩ := h; rfl) | (obtain ⟨_, _, _, _, _, _, _, _, _, _, _, _, _, _, _, _, _, _, _, _, _, _, _, rfl, _⟩ := h; rfl) | (obtain ⟨_, _, _, _, _, _, _, _, _, _, _, _, _, _, _, _, _, _, _, _, _, _, _, _, rfl, _⟩ := h; rfl) | (obtain ⟨_, _, _, _, _, _, _, _, _, _, _, _, _, _, _, _, _, _, _, _, _, _, _, _, _, rfl, _⟩ := h; rfl)) (fun cdv A outer s H vs Q E hr h => ⟨_, d__law_draw m_len hr, p_draw h⟩)
theorem sc__law_heights : FnScope ["_law_draws_here", "_law_many", "_law_size", "_law_k"] ["_law_draws_here"] (defScope s__law_heights) := ⟨rfl, rfl, rfl, by decide +kernel, rfl, by decide +kernel, by decide +kernel⟩
theorem d__law_heights {P : Program} {w : World} {K : PySem.W.Frag} {mg : Str → Option Value} {base : Heap} {CX : CXT} {f : Addr} {cdv : Value} {A : Around} {outer : List Env} {s : Shared} {H : Hp} {E : XK} (c__law_draw : Cal P w K mg base CX0 1 "_law_draw" ["_law_draws_here", "_law_many"] (spDraw K)) (m_int : mg "int" = none) (m_range : mg "range" = none)
    (hr : Room 1 (A.deeper (envOfC "_law_heights" (defScope s__law_heights) s.heap.objs.size f cdv))) :
    PSs (cxOf CX P w K mg base ["_law_draws_here", "_law_many", "_law_size", "_law_k"] "_law_heights" (defScope s__law_heights) f cdv A outer s H E) (defBody s__law_heights) (t__law_heights K) :=
  (pss_cons (ps_set (i := 1) sc__law_heights.nd rfl (by first | exact Or.inl rfl | exact Or.inr rfl) (pe_op op_add pe_int (pe_cal c__law_draw (hr.mono (by decide)) rfl pass0 (pa_cons (pv 0) (pa_cons (pe_ix ix_list (pe_lst (pa_cons pe_int (pa_cons pe_int pa_nil))) (pe_callTy call_int1 (by rfl) m_int (by decide +kernel) (pa_cons (pe_cmpR op_eq (pe_cal c__law_draw (hr.mono (by decide)) rfl pass0 (pa_cons (pv 0) (pa_cons pe_int pa_nil))) pe_int (nomark _)) pa_nil)) (fun _ _ => rfl)) pa_nil)))))
    (pss_cons (ps_set (i := 2) sc__law_heights.nd rfl (by first | exact Or.inl rfl | exact Or.inr rfl) (pe_ix ix_list (pe_lst (pa_cons pe_int (pa_cons pe_int (pa_cons (pe_op op_pow pe_int pe_int) (pa_cons (pe_op op_pow pe_int pe_int) pa_nil))))) (pe_cal c__law_draw (hr.mono (by decide)) rfl pass0 (pa_cons (pv 0) (pa_cons pe_int pa_nil))) (fun _ _ => rfl)))
    (pss_one (ps_ret (pe_lc (own := [("_law_k", 3)]) (g := (gName 3)) (tt := tYes) (te := (tOp oSub (tCall (spDraw K) [] E0 (tCons (tVar 0) (tCons (tOp oAdd (tOp oMul (tC (.int 2)) (tVar 2)) (tC (.int 1))) tNil))) (tVar 2))) rfl sc__law_heights.nd (pi_range1 rfl m_range (pa_cons (pv 1) pa_nil)) (blkOk_by (N := ["_law_draws_here", "_law_many", "_law_size", "_law_k"]) (sc := defScope s__law_heights) (by decide +kernel)) (fun _ _ _ _ _ => (pg_name (i := 3) sc__law_heights.nd rfl (by first | exact Or.inl rfl | exact Or.inr rfl))) (fun _ _ _ _ _ => pts_nil) (fun _ _ _ _ _ => (pe_op op_sub (pe_cal c__law_draw (hr.mono (by decide)) rfl pass0 (pa_cons (pv 0) (pa_cons (pe_op op_add (pe_op op_mul pe_int (pv 2)) pe_int) pa_nil))) (pv 2))))))))
theorem ok__law_heights {P : Program} {w : World} {K : PySem.W.Frag} {mg : Str → Option Value} {base : Heap} {f : Addr} {fd : FuncData} (F : FunD K "_law_heights" "_law_heights" (defArgs s__law_heights) (defBody s__law_heights) (defScope s__law_heights) [] [] f fd) (c__law_draw : Cal P w K mg base CX0 1 "_law_draw" ["_law_draws_here", "_law_many"] (spDraw K)) (m_int : mg "int" = none) (m_range : mg "range" = none) : FnOk P w K mg base CX0 2 f fd ["_law_draws_here"] (spHeights K) :=
  F.ok sc__law_heights (fun vs H Q E h => by first | (obtain ⟨_, rfl, _⟩ := h; rfl) | (obtain ⟨_, _, rfl, _⟩ := h; rfl) | (obtain ⟨_, _, _, rfl, _⟩ := h; rfl) | (obtain ⟨_, _, _, _, rfl, _⟩ := h; rfl) | (obtain ⟨_, _, _, _, _, rfl, _⟩ := h; rfl) | (obtain ⟨_, _, _, _, _, _, rfl, _⟩ := h; rfl) | (obtain ⟨_, _, _, _, _, _, _, rfl, _⟩ := h; rfl) | (obtain ⟨_, _, _, _, _, _, _, _, rfl, _⟩ := h; rfl) | (obtain ⟨_, _, _, _, _, _, _, _, _, rfl, _⟩ := h; rfl) | (obtain ⟨_, _, _, _, _, _, _, _, _, _, rfl, _⟩ := h; rfl) | (obtain ⟨_, _, _, _, _, _, _, _, _, _, _, rfl, _⟩ := h; rfl) | (obtain ⟨_, _, _, _, _, _, _, _, _, _, _, _, rfl, _⟩ := h; rfl) | (obtain ⟨_, _, _, _, _, _, _, _, _, _, _, _, _, rfl, _⟩ := h; rfl) | (obtain ⟨_, _, _, _, _, _, _, _, _, _, _, _, _, _, rfl, _⟩ := h; rfl) | (obtain ⟨_, _, _, _, _, _, _, _, _, _, _, _, _, _, _, rfl, _⟩ := h; rfl) | (obtain ⟨_, _, _, _, _, _, _, _, _, _, _, _, _, _, _, _, rfl, _⟩ := h; rfl) | (obtain ⟨_, _, _, _, _, _, _, _, _, _, _, _, _, _, _, _, _, rfl, _⟩ := h; rfl) | (obtain ⟨_, _, _, _, _, _, _, _, _, _, _, _, _, _, _, _, _, _, rfl, _⟩ := h; rfl) | (obtain ⟨_, _, _, _, _, _, _, _, _, _, _, _, _, _, _, _, _, _, _, rfl, _⟩ := h; rfl) | (obtain ⟨_, _, _, _, _, _, _, _, _, _, _, _, _, _, _, _, _, _, _, _, rfl, _⟩ := h; rfl) | (obtain ⟨_, _, _, _, _, _, _, _, _, _, _, _, _, _, _, _, _, _, _, _, _, rfl, _⟩ := h; rfl) | (obtain ⟨_, _, _, _, _, _, _, _, _, _, _, _, _, _, _, _, _, _, _, _, _, _, rfl, _⟩ := h; rfl) | (obtain ⟨_, _, _, _, _, _, _, _, _, _, _, _, _, _, _, _, _, _, _, _, _, _, _, rfl, _⟩ := h; rfl) | (obtain ⟨_, _, _, _, _, _, _, _, _, _, _, _, _, _, _, _, _, _, _, _, _, _, _, _, rfl, _⟩ := h; rfl) | (obtain ⟨_, _, _, _, _, _, _, _, _, _, _, _, _, _, _, _, _, _, _, _, _, _, _, _, _, rfl, _⟩ := h; rfl)) (fun cdv A outer s H vs Q E hr h => ⟨_, d__law_heights c__law_draw m_int m_range hr, p_heights h⟩)
theorem sc__law_widths : FnScope ["_law_draws_here", "_law_many", "_law_size", "_law_k"] ["_law_draws_here", "_law_many"] (defScope s__law_widths) := ⟨rfl, rfl, rfl, by decide +kernel, rfl, by decide +kernel, by decide +kernel⟩
theorem d__law_widths {P : Program} {w : World} {K : PySem.W.Frag} {mg : Str → Option Value} {base : Heap} {CX : CXT} {f : Addr} {cdv : Value} {A : Around} {outer : List Env} {s : Shared} {H : Hp} {E : XK} (c__law_draw : Cal P w K mg base CX0 1 "_law_draw" ["_law_draws_here", "_law_many"] (spDraw K)) (m_range : mg "range" = none)
    (hr : Room 1 (A.deeper (envOfC "_law_widths" (defScope s__law_widths) s.heap.objs.size f cdv))) :
    PSs (cxOf CX P w K mg base ["_law_draws_here", "_law_many", "_law_size", "_law_k"] "_law_widths" (defScope s__law_widths) f cdv A outer s H E) (defBody s__law_widths) (t__law_widths K) :=
  (pss_cons (ps_set (i := 2) sc__law_widths.nd rfl (by first | exact Or.inl rfl | exact Or.inr rfl) (pe_ix ix_list (pe_lst (pa_cons pe_int (pa_cons pe_int (pa_cons (pe_op op_pow pe_int pe_int) pa_nil)))) (pe_cal c__law_draw (hr.mono (by decide)) rfl pass0 (pa_cons (pv 0) (pa_cons pe_int pa_nil))) (fun _ _ => rfl)))
    (pss_one (ps_ret (pe_lc (own := [("_law_k", 3)]) (g := (gName 3)) (tt := tYes) (te := (tOp oAdd (tC (.int 1)) (tCall (spDraw K) [] E0 (tCons (tVar 0) (tCons (tVar 2) tNil))))) rfl sc__law_widths.nd (pi_range1 rfl m_range (pa_cons (pv 1) pa_nil)) (blkOk_by (N := ["_law_draws_here", "_law_many", "_law_size", "_law_k"]) (sc := defScope s__law_widths) (by decide +kernel)) (fun _ _ _ _ _ => (pg_name (i := 3) sc__law_widths.nd rfl (by first | exact Or.inl rfl | exact Or.inr rfl))) (fun _ _ _ _ _ => pts_nil) (fun _ _ _ _ _ => (pe_op op_add pe_int (pe_cal c__law_draw (hr.mono (by decide)) rfl pass0 (pa_cons (pv 0) (pa_cons (pv 2) pa_nil)))))))))
theorem ok__law_widths {P : Program} {w : World} {K : PySem.W.Frag} {mg : Str → Option Value} {base : Heap} {f : Addr} {fd : FuncData} (F : FunD K "_law_widths" "_law_widths" (defArgs s__law_widths) (defBody s__law_widths) (defScope s__law_widths) [] [] f fd) (c__law_draw : Cal P w K mg base CX0 1 "_law_draw" ["_law_draws_here", "_law_many"] (spDraw K)) (m_range : mg "range" = none) : FnOk P w K mg base CX0 2 f fd ["_law_draws_here", "_law_many"] (spWidths K) :=
  F.ok sc__law_widths (fun vs H Q E h => by first | (obtain ⟨_, rfl, _⟩ := h; rfl) | (obtain ⟨_, _, rfl, _⟩ := h; rfl) | (obtain ⟨_, _, _, rfl, _⟩ := h; rfl) | (obtain ⟨_, _, _, _, rfl, _⟩ := h; rfl) | (obtain ⟨_, _, _, _, _, rfl, _⟩ := h; rfl) | (obtain ⟨_, _, _, _, _, _, rfl, _⟩ := h; rfl) | (obtain ⟨_, _, _, _, _, _, _, rfl, _⟩ := h; rfl) | (obtain ⟨_, _, _, _, _, _, _, _, rfl, _⟩ := h; rfl) | (obtain ⟨_, _, _, _, _, _, _, _, _, rfl, _⟩ := h; rfl) | (obtain ⟨_, _, _, _, _, _, _, _, _, _, rfl, _⟩ := h; rfl) | (obtain ⟨_, _, _, _, _, _, _, _, _, _, _, rfl, _⟩ := h; rfl) | (obtain ⟨_, _, _, _, _, _, _, _, _, _, _, _, rfl, _⟩ := h; rfl) | (obtain ⟨_, _, _, _, _, _, _, _, _, _, _, _, _, rfl, _⟩ := h; rfl) | (obtain ⟨_, _, _, _, _, _, _, _, _, _, _, _, _, _, rfl, _⟩ := h; rfl) | (obtain ⟨_, _, _, _, _, _, _, _, _, _, _, _, _, _, _, rfl, _⟩ := h; rfl) | (obtain ⟨_, _, _, _, _, _, _, _, _, _, _, _, _, _, _, _, rfl, _⟩ := h; rfl) | (obtain ⟨_, _, _, _, _, _, _, _, _, _, _, _, _, _, _, _, _, rfl, _⟩ := h; rfl) | (obtain ⟨_, _, _, _, _, _, _, _, _, _, _, _, _, _, _, _, _, _, rfl, _⟩ := h; rfl) | (obtain ⟨_, _, _, _, _, _, _, _, _, _, _, _, _, _, _, _, _, _, _, rfl, _⟩ := h; rfl) | (obtain ⟨_, _, _, _, _, _, _, _, _, _, _, _, _, _, _, _, _, _, _, _, rfl, _⟩ := h; rfl) | (obtain ⟨_, _, _, _, _, _, _, _, _, _, _, _, _, _, _, _, _, _, _, _, _, rfl, _⟩ := h; rfl) | (obtain ⟨_, _, _, _, _, _, _, _, _, _, _, _, _, _, _, _, _, _, _, _, _, _, rfl, _⟩ := h; rfl) | (obtain ⟨_, _, _, _, _, _, _, _, _, _, _, _, _, _, _, _, _, _, _, _, _, _, _, rfl, _⟩ := h; rfl) | (obtain ⟨_, _, _, _, _, _, _, _, _, _, _, _, _, _, _, _, _, _, _, _, _, _, _, _, rfl, _⟩ := h; rfl) | (obtain ⟨_, _, _, _, _, _, _, _, _, _, _, _, _, _, _, _, _, _, _, _, _, _, _, _, _, rfl, _⟩ := h; rfl)) (fun cdv A outer s H vs Q E hr h => ⟨_, d__law_widths c__law_draw m_range hr, p_widths h⟩)
theorem sc__law_made : FnScope ["_law_heights_here", "_law_widths_here", "_law_found", "e"] ["_law_heights_here", "_law_widths_here"] (defScope s__law_made) := ⟨rfl, rfl, rfl, by decide +kernel, rfl, by decide +kernel, by decide +kernel⟩
theorem d__law_made {P : Program} {w : World} {K : PySem.W.Frag} {mg : Str → Option Value} {base : Heap} {C_Profile : Addr} {C_InvalidProfile : Addr} {C_InvalidWidths : Addr} {C_RainError : Addr} {CX : CXT} {f : Addr} {cdv : Value} {A : Around} {outer : List Env} {s : Shared} {H : Hp} {E : XK} (cm2_Profile : CalM P w K mg base (L2.CX P w) 5 "Profile" C_Profile ["self", "heights", "widths"] (spInitX K C_Profile C_InvalidProfile C_InvalidWidths) []) (g_InvalidWidths : mg "InvalidWidths" = some (.ref C_InvalidWidths)) (ec_InvalidProfile : ExcC K C_InvalidProfile) (m_isinstance : mg "isinstance" = none) (m_ValueError : mg "ValueError" = none) (g_RainError : mg "RainError" = some (.ref C_RainError)) (xf_InvalidProfile : XfC K C_InvalidProfile) (no_InvalidProfile_index : PySem.W.findIn K (.ref C_InvalidProfile) "index" = some none) (g_InvalidProfile : mg "InvalidProfile" = some (.ref C_InvalidProfile)) (ec_InvalidWidths : ExcC K C_InvalidWidths) (xf_InvalidWidths : XfC K C_InvalidWidths) (no_InvalidWidths_index : PySem.W.findIn K (.ref C_InvalidWidths) "index" = some none)
    (hr : Room 6 (A.deeper (envOfC "_law_made" (defScope s__law_made) s.heap.objs.size f cdv))) :
    PSs (cxOf CX P w K mg base ["_law_heights_here", "_law_widths_here", "_law_found", "e"] "_law_made" (defScope s__law_made) f cdv A outer s H E) (defBody s__law_made) (t__law_made12 K C_Profile C_InvalidProfile C_InvalidWidths C_RainError) :=
  (pss_cons (ps_set (i := 2) sc__law_made.nd rfl (by first | exact Or.inl rfl | exact Or.inr rfl) (pe_tup pa_nil))
    (pss_cons (ps_tryL (tb := fun W => (tDrop (tMakeX C_Profile (spInitX K C_Profile C_InvalidProfile C_InvalidWidths) [] (WE W) (tCons (tVar 0) (tCons (tVar 1) tNil))))) (l := [(.ref C_InvalidProfile, fun xa xcls xd => (tAsg (tTup (tCons (tC (.str "heights")) (tCons (tXf xa xcls xd C_InvalidProfile "index" (tVar 3)) (tCons (tCB (rIsD K C_InvalidProfile xa xcls xd) (tCons (tVar 3) (tCons (tC (.ref C_RainError)) tNil))) (tCons (tCB (rIsD K C_InvalidProfile xa xcls xd) (tCons (tVar 3) (tCons (tC (.ty "ValueError")) tNil))) (tCons (tCB (rIsD K C_InvalidProfile xa xcls xd) (tCons (tVar 3) (tCons (tC (.ref C_InvalidWidths)) tNil))) tNil)))))) (gName 2))), (.ref C_InvalidWidths, fun xa xcls xd => (tAsg (tTup (tCons (tC (.str "widths")) (tCons (tXf xa xcls xd C_InvalidWidths "index" (tVar 3)) (tCons (tCB (rIsD K C_InvalidWidths xa xcls xd) (tCons (tVar 3) (tCons (tC (.ref C_RainError)) tNil))) (tCons (tCB (rIsD K C_InvalidWidths xa xcls xd) (tCons (tVar 3) (tCons (tC (.ty "ValueError")) tNil))) (tCons (tCB (rIsD K C_InvalidWidths xa xcls xd) (tCons (tVar 3) (tCons (tC (.ref C_InvalidProfile)) tNil))) tNil)))))) (gName 2)))]) (Wo := fun _ _ _ _ => False) rfl rfl sc__law_made.nd (i := 3) rfl rfl takesF (fun W pn xe tk hpo => (pss_one (ps_expr (pe_calmX cm2_Profile (hr.mono (by decide)) (by rfl) (passAt tk) (pa_cons (pv 0) (pa_cons (pv 1) pa_nil)))))) (by refine AsL.cons ?_ ?_ ?_; exact ⟨by rfl, by decide, .inl g_InvalidProfile⟩; intro xa oe xcls xd pn hz hfv; exact (pss_one (ps_set (i := 2) sc__law_made.nd rfl (by first | exact Or.inl rfl | exact Or.inr rfl) (pe_tup (pa_cons pe_str (pa_cons (pe_xf xf_InvalidProfile no_InvalidProfile_index hz hfv (pv 3)) (pa_cons (pe_callB (call_isD ec_InvalidProfile hz hfv) (by rfl) m_isinstance (by decide +kernel) (pa_cons (pv 3) (pa_cons (pe_glob rfl g_RainError rfl) pa_nil))) (pa_cons (pe_callB (call_isD ec_InvalidProfile hz hfv) (by rfl) m_isinstance (by decide +kernel) (pa_cons (pv 3) (pa_cons (pe_bltn (by rfl) m_ValueError (by decide +kernel) rfl) pa_nil))) (pa_cons (pe_callB (call_isD ec_InvalidProfile hz hfv) (by rfl) m_isinstance (by decide +kernel) (pa_cons (pv 3) (pa_cons (pe_glob rfl g_InvalidWidths rfl) pa_nil))) pa_nil)))))))); exact (by refine AsL.cons ?_ ?_ ?_; exact ⟨by rfl, by decide, .inl g_InvalidWidths⟩; intro xa oe xcls xd pn hz hfv; exact (pss_one (ps_set (i := 2) sc__law_made.nd rfl (by first | exact Or.inl rfl | exact Or.inr rfl) (pe_tup (pa_cons pe_str (pa_cons (pe_xf xf_InvalidWidths no_InvalidWidths_index hz hfv (pv 3)) (pa_cons (pe_callB (call_isD ec_InvalidWidths hz hfv) (by rfl) m_isinstance (by decide +kernel) (pa_cons (pv 3) (pa_cons (pe_glob rfl g_RainError rfl) pa_nil))) (pa_cons (pe_callB (call_isD ec_InvalidWidths hz hfv) (by rfl) m_isinstance (by decide +kernel) (pa_cons (pv 3) (pa_cons (pe_bltn (by rfl) m_ValueError (by decide +kernel) rfl) pa_nil))) (pa_cons (pe_callB (call_isD ec_InvalidWidths hz hfv) (by rfl) m_isinstance (by decide +kernel) (pa_cons (pv 3) (pa_cons (pe_glob rfl g_InvalidProfile rfl) pa_nil))) pa_nil)))))))); exact AsL.nil)))
    (pss_one (ps_ret (pv 2)))))
theorem ok__law_made {P : Program} {w : World} {K : PySem.W.Frag} {mg : Str → Option Value} {base : Heap} {C_Profile : Addr} {C_InvalidProfile : Addr} {C_InvalidWidths : Addr} {C_RainError : Addr} {f : Addr} {fd : FuncData} (F : FunD K "_law_made" "_law_made" (defArgs s__law_made) (defBody s__law_made) (defScope s__law_made) [] [] f fd) (cm2_Profile : CalM P w K mg base (L2.CX P w) 5 "Profile" C_Profile ["self", "heights", "widths"] (spInitX K C_Profile C_InvalidProfile C_InvalidWidths) []) (g_InvalidWidths : mg "InvalidWidths" = some (.ref C_InvalidWidths)) (ec_InvalidProfile : ExcC K C_InvalidProfile) (m_isinstance : mg "isinstance" = none) (m_ValueError : mg "ValueError" = none) (g_RainError : mg "RainError" = some (.ref C_RainError)) (xf_InvalidProfile : XfC K C_InvalidProfile) (no_InvalidProfile_index : PySem.W.findIn K (.ref C_InvalidProfile) "index" = some none) (g_InvalidProfile : mg "InvalidProfile" = some (.ref C_InvalidProfile)) (ec_InvalidWidths : ExcC K C_InvalidWidths) (xf_InvalidWidths : XfC K C_InvalidWidths) (no_InvalidWidths_index : PySem.W.findIn K (.ref C_InvalidWidths) "index" = some none) : FnOk P w K mg base CX0 7 f fd ["_law_heights_here", "_law_widths_here"] (spMade12 K C_Profile C_InvalidProfile C_InvalidWidths C_RainError) :=
  F.ok sc__law_made (fun vs H Q E h => by first | (obtain ⟨_, rfl, _⟩ := h; rfl) | (obtain ⟨_, _, rfl, _⟩ := h; rfl) | (obtain ⟨_, _, _, rfl, _⟩ := h; rfl) | (obtain ⟨_, _, _, _, rfl, _⟩ := h; rfl) | (obtain ⟨_, _, _, _, _, rfl, _⟩ := h; rfl) | (obtain ⟨_, _, _, _, _, _, rfl, _⟩ := h; rfl) | (obtain ⟨_, _, _, _, _, _, _, rfl, _⟩ := h; rfl) | (obtain ⟨_, _, _, _, _, _, _, _, rfl, _⟩ := h; rfl) | (obtain ⟨_, _, _, _, _, _, _, _, _, rfl, _⟩ := h; rfl) | (obtain ⟨_, _, _, _, _, _, _, _, _, _, rfl, _⟩ := h; rfl) | (obtain ⟨_, _, _, _, _, _, _, _, _, _, _, rfl, _⟩ := h; rfl) | (obtain ⟨_, _, _, _, _, _, _, _, _, _, _, _, rfl, _⟩ := h; rfl) | (obtain ⟨_, _, _, _, _, _, _, _, _, _, _, _, _, rfl, _⟩ := h; rfl) | (obtain ⟨_, _, _, _, _, _, _, _, _, _, _, _, _, _, rfl, _⟩ := h; rfl) | (obtain ⟨_, _, _, _, _, _, _, _, _, _, _, _, _, _, _, rfl, _⟩ := h; rfl) | (obtain ⟨_, _, _, _, _, _, _, _, _, _, _, _, _, _, _, _, rfl, _⟩ := h; rfl) | (obtain ⟨_, _, _, _, _, _, _, _, _, _, _, _, _, _, _, _, _, rfl, _⟩ := h; rfl) | (obtain ⟨_, _, _, _, _, _, _, _, _, _, _, _, _, _, _, _, _, _, rfl, _⟩ := h; rfl) | (obtain ⟨_, _, _, _, _, _, _, _, _, _, _, _, _, _, _, _, _, _, _, rfl, _⟩ := h; rfl) | (obtain ⟨_, _, _, _, _, _, _, _, _, _, _, _, _, _, _, _, _, _, _, _, rfl, _⟩ := h; rfl) | (obtain ⟨_, _, _, _, _, _, _, _, _, _, _, _, _, _, _, _, _, _, _, _, _, rfl, _⟩ := h; rfl) | (obtain ⟨_, _, _, _, _, _, _, _, _, _, _, _, _, _, _, _, _, _, _, _, _, _, rfl, _⟩ := h; rfl) | (obtain ⟨_, _, _, _, _, _, _, _, _, _, _, _, _, _, _, _, _, _, _, _, _, _, _, rfl, _⟩ := h; rfl) | (obtain ⟨_, _, _, _, _, _, _, _, _, _, _, _, _, _, _, _, _, _, _, _, _, _, _, _, rfl, _⟩ := h; rfl) | (obtain ⟨_, _, _, _, _, _, _, _, _, _, _, _, _, _, _, _, _, _, _, _, _, _, _, _, _, rfl, _⟩ := h; rfl)) (fun cdv A outer s H vs Q E hr h => ⟨_, d__law_made cm2_Profile g_InvalidWidths ec_InvalidProfile m_isinstance m_ValueError g_RainError xf_InvalidProfile no_InvalidProfile_index g_InvalidProfile ec_InvalidWidths xf_InvalidWidths no_InvalidWidths_index hr, p_made12 h⟩)
theorem sc__law_odd : FnScope ["_law_draws_here", "_law_least", "_law_far", "_law_odd_here"] ["_law_draws_here", "_law_least"] (defScope s__law_odd) := ⟨rfl, rfl, rfl, by decide +kernel, rfl, by decide +kernel, by decide +kernel⟩
theorem d__law_odd {P : Program} {w : World} {K : PySem.W.Frag} {mg : Str → Option Value} {base : Heap} {CX : CXT} {f : Addr} {cdv : Value} {A : Around} {outer : List Env} {s : Shared} {H : Hp} {E : XK} (c__law_draw : Cal P w K mg base CX0 1 "_law_draw" ["_law_draws_here", "_law_many"] (spDraw K))
    (hr : Room 1 (A.deeper (envOfC "_law_odd" (defScope s__law_odd) s.heap.objs.size f cdv))) :
    PSs (cxOf CX P w K mg base ["_law_draws_here", "_law_least", "_law_far", "_law_odd_here"] "_law_odd" (defScope s__law_odd) f cdv A outer s H E) (defBody s__law_odd) (t__law_odd12 K) :=
  (pss_cons (ps_set (i := 2) sc__law_odd.nd rfl (by first | exact Or.inl rfl | exact Or.inr rfl) (pe_op op_add (pe_op op_add (pe_op op_pow pe_int pe_int) pe_int) (pe_cal c__law_draw (hr.mono (by decide)) rfl pass0 (pa_cons (pv 0) (pa_cons (pe_op op_pow pe_int pe_int) pa_nil)))))
    (pss_cons (ps_set (i := 3) sc__law_odd.nd rfl (by first | exact Or.inl rfl | exact Or.inr rfl) (pe_lst (pa_cons pe_non (pa_cons pe_bl (pa_cons pe_bl (pa_cons pe_str (pa_cons pe_str (pa_cons (pe_tup pa_nil) (pa_cons (pe_lst pa_nil) (pa_cons (pe_tup (pa_cons pe_int pa_nil)) (pa_cons pe_dnewK (pa_cons (pv 2) (pa_cons (pe_op op_sub pe_int (pv 2)) (pa_cons (pe_op op_sub (pe_op op_sub (pv 1) pe_int) (pe_cal c__law_draw (hr.mono (by decide)) rfl pass0 (pa_cons (pv 0) (pa_cons pe_int pa_nil)))) pa_nil))))))))))))))
    (pss_one (ps_ret (pe_ix ix_list (pv 3) (pe_cal c__law_draw (hr.mono (by decide)) rfl pass0 (pa_cons (pv 0) (pa_cons pe_int pa_nil))) (fun _ _ => rfl))))))
theorem ok__law_odd {P : Program} {w : World} {K : PySem.W.Frag} {mg : Str → Option Value} {base : Heap} {f : Addr} {fd : FuncData} (F : FunD K "_law_odd" "_law_odd" (defArgs s__law_odd) (defBody s__law_odd) (defScope s__law_odd) [] [] f fd) (c__law_draw : Cal P w K mg base CX0 1 "_law_draw" ["_law_draws_here", "_law_many"] (spDraw K)) : FnOk P w K mg base CX0 2 f fd ["_law_draws_here", "_law_least"] (spOdd12 K) :=
  F.ok sc__law_odd (fun vs H Q E h => by first | (obtain ⟨_, rfl, _⟩ := h; rfl) | (obtain ⟨_, _, rfl, _⟩ := h; rfl) | (obtain ⟨_, _, _, rfl, _⟩ := h; rfl) | (obtain ⟨_, _, _, _, rfl, _⟩ := h; rfl) | (obtain ⟨_, _, _, _, _, rfl, _⟩ := h; rfl) | (obtain ⟨_, _, _, _, _, _, rfl, _⟩ := h; rfl) | (obtain ⟨_, _, _, _, _, _, _, rfl, _⟩ := h; rfl) | (obtain ⟨_, _, _, _, _, _, _, _, rfl, _⟩ := h; rfl) | (obtain ⟨_, _, _, _, _, _, _, _, _, rfl, _⟩ := h; rfl) | (obtain ⟨_, _, _, _, _, _, _, _, _, _, rfl, _⟩ := h; rfl) | (obtain ⟨_, _, _, _, _, _, _, _, _, _, _, rfl, _⟩ := h; rfl) | (obtain ⟨_, _, _, _, _, _, _, _, _, _, _, _, rfl, _⟩ := h; rfl) | (obtain ⟨_, _, _, _, _, _, _, _, _, _, _, _, _, rfl, _⟩ := h; rfl) | (obtain ⟨_, _, _, _, _, _, _, _, _, _, _, _, _, _, rfl, _⟩ := h; rfl) | (obtain ⟨_, _, _, _, _, _, _, _, _, _, _, _, _, _, _, rfl, _⟩ := h; rfl) | (obtain ⟨_, _, _, _, _, _, _, _, _, _, _, _, _, _, _, _, rfl, _⟩ := h; rfl) | (obtain ⟨_, _, _, _, _, _, _, _, _, _, _, _, _, _, _, _, _, rfl, _⟩ := h; rfl) | (obtain ⟨_, _, _, _, _, _, _, _, _, _, _, _, _, _, _, _, _, _, rfl, _⟩ := h; rfl) | (obtain ⟨_, _, _, _, _, _, _, _, _, _, _, _, _, _, _, _, _, _, _, rfl, _⟩ := h; rfl) | (obtain ⟨_, _, _, _, _, _, _, _, _, _, _, _, _, _, _, _, _, _, _, _, rfl, _⟩ := h; rfl) | (obtain ⟨_, _, _, _, _, _, _, _, _, _, _, _, _, _, _, _, _, _, _, _, _, rfl, _⟩ := h; rfl) | (obtain ⟨_, _, _, _, _, _, _, _, _, _, _, _, _, _, _, _, _, _, _, _, _, _, rfl, _⟩ := h; rfl) | (obtain ⟨_, _, _, _, _, _, _, _, _, _, _, _, _, _, _, _, _, _, _, _, _, _, _, rfl, _⟩ := h; rfl) | (obtain ⟨_, _, _, _, _, _, _, _, _, _, _, _, _, _, _, _, _, _, _, _, _, _, _, _, rfl, _⟩ := h; rfl) | (obtain ⟨_, _, _, _, _, _, _, _, _, _, _, _, _, _, _, _, _, _, _, _, _, _, _, _, _, rfl, _⟩ := h; rfl)) (fun cdv A outer s H vs Q E hr h => ⟨_, d__law_odd c__law_draw hr, p_odd12 h⟩)
theorem sc__law_spoilt : FnScope ["_law_draws_here", "_law_row", "_law_least", "_law_places", "_law_result", "_law_turn", "_law_place"] ["_law_draws_here", "_law_row", "_law_least"] (defScope s__law_spoilt) := ⟨rfl, rfl, rfl, by decide +kernel, rfl, by decide +kernel, by decide +kernel⟩
theorem d__law_spoilt {P : Program} {w : World} {K : PySem.W.Frag} {mg : Str → Option Value} {base : Heap} {CX : CXT} {f : Addr} {cdv : Value} {A : Around} {outer : List Env} {s : Shared} {H : Hp} {E : XK} (m_list : mg "list" = none) (c__law_draw : Cal P w K mg base CX0 1 "_law_draw" ["_law_draws_here", "_law_many"] (spDraw K)) (m_range : mg "range" = none) (m_len : mg "len" = none) (c__law_odd : Cal P w K mg base CX0 2 "_law_odd" ["_law_draws_here", "_law_least"] (spOdd12 K))
    (hr : Room 2 (A.deeper (envOfC "_law_spoilt" (defScope s__law_spoilt) s.heap.objs.size f cdv))) :
    PSs (cxOf CX P w K mg base ["_law_draws_here", "_law_row", "_law_least", "_law_places", "_law_result", "_law_turn", "_law_place"] "_law_spoilt" (defScope s__law_spoilt) f cdv A outer s H E) (defBody s__law_spoilt) (t__law_spoilt12 K) :=
  (pss_cons (ps_set (i := 3) sc__law_spoilt.nd rfl (by first | exact Or.inl rfl | exact Or.inr rfl) (pe_lst pa_nil))
    (pss_cons (ps_set (i := 4) sc__law_spoilt.nd rfl (by first | exact Or.inl rfl | exact Or.inr rfl) (pe_callTy call_list_of (by rfl) m_list (by decide +kernel) (pa_cons (pv 1) pa_nil)))
    (pss_cons (ps_for (passes_of rfl) rfl (pi_range1 rfl m_range (pa_cons (pe_cal c__law_draw (hr.mono (by decide)) rfl pass0 (pa_cons (pv 0) (pa_cons pe_int pa_nil))) pa_nil)) (pg_name (i := 5) sc__law_spoilt.nd rfl (by first | exact Or.inl rfl | exact Or.inr rfl)) (pss_cons (ps_set (i := 6) sc__law_spoilt.nd rfl (by first | exact Or.inl rfl | exact Or.inr rfl) (pe_cal c__law_draw (hr.mono (by decide)) rfl pass0 (pa_cons (pv 0) (pa_cons (pe_callB call_len_seq (by rfl) m_len (by decide +kernel) (pa_cons (pv 1) pa_nil)) pa_nil))))
    (pss_cons (ps_asg (pe_cal c__law_odd (hr.mono (by decide)) rfl pass0 (pa_cons (pv 0) (pa_cons (pv 2) pa_nil))) (pg_sub (pv 4) (pv 6) set_list))
    (pss_one (ps_expr (pe_bm PySem.F.plainAttrs_list PySem.F.slot_list_append PySem.F.type_list_append mt_append (pv 3) (pa_cons (pv 6) pa_nil)))))))
    (pss_one (ps_ret (pe_tup (pa_cons (pv 4) (pa_cons (pv 3) pa_nil))))))))
theorem ok__law_spoilt {P : Program} {w : World} {K : PySem.W.Frag} {mg : Str → Option Value} {base : Heap} {f : Addr} {fd : FuncData} (F : FunD K "_law_spoilt" "_law_spoilt" (defArgs s__law_spoilt) (defBody s__law_spoilt) (defScope s__law_spoilt) [] [] f fd) (m_list : mg "list" = none) (c__law_draw : Cal P w K mg base CX0 1 "_law_draw" ["_law_draws_here", "_law_many"] (spDraw K)) (m_range : mg "range" = none) (m_len : mg "len" = none) (c__law_odd : Cal P w K mg base CX0 2 "_law_odd" ["_law_draws_here", "_law_least"] (spOdd12 K)) : FnOk P w K mg base CX0 3 f fd ["_law_draws_here", "_law_row", "_law_least"] (spSpoilt12 K) :=
  F.ok sc__law_spoilt (fun vs H Q E h => by first | (obtain ⟨_, rfl, _⟩ := h; rfl) | (obtain ⟨_, _, rfl, _⟩ := h; rfl) | (obtain ⟨_, _, _, rfl, _⟩ := h; rfl) | (obtain ⟨_, _, _, _, rfl, _⟩ := h; rfl) | (obtain ⟨_, _, _, _, _, rfl, _⟩ := h; rfl) | (obtain ⟨_, _, _, _, _, _, rfl, _⟩ := h; rfl) | (obtain ⟨_, _, _, _, _, _, _, rfl, _⟩ := h; rfl) | (obtain ⟨_, _, _, _, _, _, _, _, rfl, _⟩ := h; rfl) | (obtain ⟨_, _, _, _, _, _, _, _, _, rfl, _⟩ := h; rfl) | (obtain ⟨_, _, _, _, _, _, _, _, _, _, rfl, _⟩ := h; rfl) | (obtain ⟨_, _, _, _, _, _, _, _, _, _, _, rfl, _⟩ := h; rfl) | (obtain ⟨_, _, _, _, _, _, _, _, _, _, _, _, rfl, _⟩ := h; rfl) | (obtain ⟨_, _, _, _, _, _, _, _, _, _, _, _, _, rfl, _⟩ := h; rfl) | (obtain ⟨_, _, _, _, _, _, _, _, _, _, _, _, _, _, rfl, _⟩ := h; rfl) | (obtain ⟨_, _, _, _, _, _, _, _, _, _, _, _, _, _, _, rfl, _⟩ := h; rfl) | (obtain ⟨_, _, _, _, _, _, _, _, _, _, _, _, _, _, _, _, rfl, _⟩ := h; rfl) | (obtain ⟨_, _, _, _, _, _, _, _, _, _, _, _, _, _, _, _, _, rfl, _⟩ := h; rfl) | (obtain ⟨_, _, _, _, _, _, _, _, _, _, _, _, _, _, _, _, _, _, rfl, _⟩ := h; rfl) | (obtain ⟨_, _, _, _, _, _, _, _, _, _, _, _, _, _, _, _, _, _, _, rfl, _⟩ := h; rfl) | (obtain ⟨_, _, _, _, _, _, _, _, _, _, _, _, _, _, _, _, _, _, _, _, rfl, _⟩ := h; rfl) | (obtain ⟨_, _, _, _, _, _, _, _, _, _, _, _, _, _, _, _, _, _, _, _, _, rfl, _⟩ := h; rfl) | (obtain ⟨_, _, _, _, _, _, _, _, _, _, _, _, _, _, _, _, _, _, _, _, _, _, rfl, _⟩ := h; rfl) | (obtain ⟨_, _, _, _, _, _, _, _, _, _, _, _, _, _, _, _, _, _, _, _, _, _, _, rfl, _⟩ := h; rfl) | (obtain ⟨_, _, _, _, _, _, _, _, _, _, _, _, _, _, _, _, _, _, _, _, _, _, _, _, rfl, _⟩ := h; rfl) | (obtain ⟨_, _, _, _, _, _, _, _, _, _, _, _, _, _, _, _, _, _, _, _, _, _, _, _, _, rfl, _⟩ := h; rfl)) (fun cdv A outer s H vs Q E hr h => ⟨_, d__law_spoilt m_list c__law_draw m_range m_len c__law_odd hr, p_spoilt12 h⟩)
theorem sc__law_first : FnScope ["_law_places", "_law_least", "_law_place"] ["_law_places"] (defScope s__law_first) := ⟨rfl, rfl, rfl, by decide +kernel, rfl, by decide +kernel, by decide +kernel⟩
theorem d__law_first {P : Program} {w : World} {K : PySem.W.Frag} {mg : Str → Option Value} {base : Heap} {CX : CXT} {f : Addr} {cdv : Value} {A : Around} {outer : List Env} {s : Shared} {H : Hp} {E : XK} 
    (hr : Room 0 (A.deeper (envOfC "_law_first" (defScope s__law_first) s.heap.objs.size f cdv))) :
    PSs (cxOf CX P w K mg base ["_law_places", "_law_least", "_law_place"] "_law_first" (defScope s__law_first) f cdv A outer s H E) (defBody s__law_first) (t__law_first12 K) :=
  (pss_cons (ps_set (i := 1) sc__law_first.nd rfl (by first | exact Or.inl rfl | exact Or.inr rfl) (pe_ix ix_list (pv 0) pe_int (fun _ _ => rfl)))
    (pss_cons (ps_for (passes_of rfl) rfl (pi_list (pv 0)) (pg_name (i := 2) sc__law_first.nd rfl (by first | exact Or.inl rfl | exact Or.inr rfl)) (pss_one (ps_if (pt_cmpR op_lt (pv 2) (pv 1) (nomark _)) (pss_one (ps_set (i := 1) sc__law_first.nd rfl (by first | exact Or.inl rfl | exact Or.inr rfl) (pv 2))) pss_nil)))
    (pss_one (ps_ret (pv 1)))))
theorem ok__law_first {P : Program} {w : World} {K : PySem.W.Frag} {mg : Str → Option Value} {base : Heap} {f : Addr} {fd : FuncData} (F : FunD K "_law_first" "_law_first" (defArgs s__law_first) (defBody s__law_first) (defScope s__law_first) [] [] f fd)  : FnOk P w K mg base CX0 1 f fd ["_law_places"] (spFirst12 K) :=
  F.ok sc__law_first (fun vs H Q E h => by first | (obtain ⟨_, rfl, _⟩ := h; rfl) | (obtain ⟨_, _, rfl, _⟩ := h; rfl) | (obtain ⟨_, _, _, rfl, _⟩ := h; rfl) | (obtain ⟨_, _, _, _, rfl, _⟩ := h; rfl) | (obtain ⟨_, _, _, _, _, rfl, _⟩ := h; rfl) | (obtain ⟨_, _, _, _, _, _, rfl, _⟩ := h; rfl) | (obtain ⟨_, _, _, _, _, _, _, rfl, _⟩ := h; rfl) | (obtain ⟨_, _, _, _, _, _, _, _, rfl, _⟩ := h; rfl) | (obtain ⟨_, _, _, _, _, _, _, _, _, rfl, _⟩ := h; rfl) | (obtain ⟨_, _, _, _, _, _, _, _, _, _, rfl, _⟩ := h; rfl) | (obtain ⟨_, _, _, _, _, _, _, _, _, _, _, rfl, _⟩ := h; rfl) | (obtain ⟨_, _, _, _, _, _, _, _, _, _, _, _, rfl, _⟩ := h; rfl) | (obtain ⟨_, _, _, _, _, _, _, _, _, _, _, _, _, rfl, _⟩ := h; rfl) | (obtain ⟨_, _, _, _, _, _, _, _, _, _, _, _, _, _, rfl, _⟩ := h; rfl) | (obtain ⟨_, _, _, _, _, _, _, _, _, _, _, _, _, _, _, rfl, _⟩ := h; rfl) | (obtain ⟨_, _, _, _, _, _, _, _, _, _, _, _, _, _, _, _, rfl, _⟩ := h; rfl) | (obtain ⟨_, _, _, _, _, _, _, _, _, _, _, _, _, _, _, _, _, rfl, _⟩ := h; rfl) | (obtain ⟨_, _, _, _, _, _, _, _, _, _, _, _, _, _, _, _, _, _, rfl, _⟩ := h; rfl) | (obtain ⟨_, _, _, _, _, _, _, _, _, _, _, _, _, _, _, _, _, _, _, rfl, _⟩ := h; rfl) | (obtain ⟨_, _, _, _, _, _, _, _, _, _, _, _, _, _, _, _, _, _, _, _, rfl, _⟩ := h; rfl) | (obtain ⟨_, _, _, _, _, _, _, _, _, _, _, _, _, _, _, _, _, _, _, _, _, rfl, _⟩ := h; rfl) | (obtain ⟨_, _, _, _, _, _, _, _, _, _, _, _, _, _, _, _, _, _, _, _, _, _, rfl, _⟩ := h; rfl) | (obtain ⟨_, _, _, _, _, _, _, _, _, _, _, _, _, _, _, _, _, _, _, _, _, _, _, rfl, _⟩ := h; rfl) | (obtain ⟨_, _, _, _, _, _, _, _, _, _, _, _, _, _, _, _, _, _, _, _, _, _, _, _, rfl, _⟩ := h; rfl) | (obtain ⟨_, _, _, _, _, _, _, _, _, _, _, _, _, _, _, _, _, _, _, _, _, _, _, _, _, rfl, _⟩ := h; rfl)) (fun cdv A outer s H vs Q E hr h => ⟨_, d__law_first  hr, p_first12 h⟩)
theorem sc__law_whole : FnScope ["_law_draws_here", "_law_row", "_law_least_length", "_law_most_length", "_law_longer", "_law_shorter", "_law_k"] ["_law_draws_here", "_law_row", "_law_least_length", "_law_most_length"] (defScope s__law_whole) := ⟨rfl, rfl, rfl, by decide +kernel, rfl, by decide +kernel, by decide +kernel⟩
theorem d__law_whole {P : Program} {w : World} {K : PySem.W.Frag} {mg : Str → Option Value} {base : Heap} {CX : CXT} {f : Addr} {cdv : Value} {A : Around} {outer : List Env} {s : Shared} {H : Hp} {E : XK} (c__law_draw : Cal P w K mg base CX0 1 "_law_draw" ["_law_draws_here", "_law_many"] (spDraw K)) (m_range : mg "range" = none) (m_tuple : mg "tuple" = none)
    (hr : Room 1 (A.deeper (envOfC "_law_whole" (defScope s__law_whole) s.heap.objs.size f cdv))) :
    PSs (cxOf CX P w K mg base ["_law_draws_here", "_law_row", "_law_least_length", "_law_most_length", "_law_longer", "_law_shorter", "_law_k"] "_law_whole" (defScope s__law_whole) f cdv A outer s H E) (defBody s__law_whole) (t__law_whole12 K) :=
  (pss_cons (ps_setLc (i := 4) (own := [("_law_k", 6)]) (g := (gName 6)) (tt := tYes) (te := (tOp (rIxL K) (tVar 1) (tC (.int 0)))) rfl sc__law_whole.nd rfl rfl (sw_true rfl rfl rfl (by decide +kernel)) (pi_range1 rfl m_range (pa_cons (pe_op op_add (pe_op op_add (pv 3) pe_int) (pe_cal c__law_draw (hr.mono (by decide)) rfl pass0 (pa_cons (pv 0) (pa_cons pe_int pa_nil)))) pa_nil)) (blkOk_by (N := ["_law_draws_here", "_law_row", "_law_least_length", "_law_most_length", "_law_longer", "_law_shorter", "_law_k"]) (sc := defScope s__law_whole) (by decide +kernel)) (fun _ _ _ _ _ => (pg_name (i := 6) sc__law_whole.nd rfl (by first | exact Or.inl rfl | exact Or.inr rfl))) (fun _ _ _ _ _ => pts_nil) (fun _ _ _ _ _ => (pe_ix ix_list (pv 1) pe_int (fun _ _ => rfl))))
    (pss_cons (ps_setLc (i := 5) (own := [("_law_k", 6)]) (g := (gName 6)) (tt := tYes) (te := (tOp (rIxL K) (tVar 1) (tC (.int 0)))) rfl sc__law_whole.nd rfl rfl (sw_true rfl rfl rfl (by decide +kernel)) (pi_range1 rfl m_range (pa_cons (pe_cal c__law_draw (hr.mono (by decide)) rfl pass0 (pa_cons (pv 0) (pa_cons (pv 2) pa_nil))) pa_nil)) (blkOk_by (N := ["_law_draws_here", "_law_row", "_law_least_length", "_law_most_length", "_law_longer", "_law_shorter", "_law_k"]) (sc := defScope s__law_whole) (by decide +kernel)) (fun _ _ _ _ _ => (pg_name (i := 6) sc__law_whole.nd rfl (by first | exact Or.inl rfl | exact Or.inr rfl))) (fun _ _ _ _ _ => pts_nil) (fun _ _ _ _ _ => (pe_ix ix_list (pv 1) pe_int (fun _ _ => rfl))))
    (pss_one (ps_ret (pe_ix ix_list (pe_lst (pa_cons pe_int (pa_cons pe_bl (pa_cons pe_bl (pa_cons pe_str (pa_cons pe_str (pa_cons pe_dnewK (pa_cons (pe_disp (pps_cons pe_int pe_int pps_nil) rfl rfl (by simp) (by decide)) (pa_cons (pv 4) (pa_cons (pe_callTy call_tuple_of (by rfl) m_tuple (by decide +kernel) (pa_cons (pv 4) pa_nil)) (pa_cons (pv 5) (pa_cons (pe_callTy call_tuple_of (by rfl) m_tuple (by decide +kernel) (pa_cons (pv 5) pa_nil)) pa_nil)))))))))))) (pe_cal c__law_draw (hr.mono (by decide)) rfl pass0 (pa_cons (pv 0) (pa_cons pe_int pa_nil))) (fun _ _ => rfl))))))
theorem ok__law_whole {P : Program} {w : World} {K : PySem.W.Frag} {mg : Str → Option Value} {base : Heap} {f : Addr} {fd : FuncData} (F : FunD K "_law_whole" "_law_whole" (defArgs s__law_whole) (defBody s__law_whole) (defScope s__law_whole) [] [] f fd) (c__law_draw : Cal P w K mg base CX0 1 "_law_draw" ["_law_draws_here", "_law_many"] (spDraw K)) (m_range : mg "range" = none) (m_tuple : mg "tuple" = none) : FnOk P w K mg base CX0 2 f fd ["_law_draws_here", "_law_row", "_law_least_length", "_law_most_length"] (spWhole12 K) :=
  F.ok sc__law_whole (fun vs H Q E h => by first | (obtain ⟨_, rfl, _⟩ := h; rfl) | (obtain ⟨_, _, rfl, _⟩ := h; rfl) | (obtain ⟨_, _, _, rfl, _⟩ := h; rfl) | (obtain ⟨_, _, _, _, rfl, _⟩ := h; rfl) | (obtain ⟨_, _, _, _, _, rfl, _⟩ := h; rfl) | (obtain ⟨_, _, _, _, _, _, rfl, _⟩ := h; rfl) | (obtain ⟨_, _, _, _, _, _, _, rfl, _⟩ := h; rfl) | (obtain ⟨_, _, _, _, _, _, _, _, rfl, _⟩ := h; rfl) | (obtain ⟨_, _, _, _, _, _, _, _, _, rfl, _⟩ := h; rfl) | (obtain ⟨_, _, _, _, _, _, _, _, _, _, rfl, _⟩ := h; rfl) | (obtain ⟨_, _, _, _, _, _, _, _, _, _, _, rfl, _⟩ := h; rfl) | (obtain ⟨_, _, _, _, _, _, _, _, _, _, _, _, rfl, _⟩ := h; rfl) | (obtain ⟨_, _, _, _, _, _, _, _, _, _, _, _, _, rfl, _⟩ := h; rfl) | (obtain ⟨_, _, _, _, _, _, _, _, _, _, _, _, _, _, rfl, _⟩ := h; rfl) | (obtain ⟨_, _, _, _, _, _, _, _, _, _, _, _, _, _, _, rfl, _⟩ := h; rfl) | (obtain ⟨_, _, _, _, _, _, _, _, _, _, _, _, _, _, _, _, rfl, _⟩ := h; rfl) | (obtain ⟨_, _, _, _, _, _, _, _, _, _, _, _, _, _, _, _, _, rfl, _⟩ := h; rfl) | (obtain ⟨_, _, _, _, _, _, _, _, _, _, _, _, _, _, _, _, _, _, rfl, _⟩ := h; rfl) | (obtain ⟨_, _, _, _, _, _, _, _, _, _, _, _, _, _, _, _, _, _, _, rfl, _⟩ := h; rfl) | (obtain ⟨_, _, _, _, _, _, _, _, _, _, _, _, _, _, _, _, _, _, _, _, rfl, _⟩ := h; rfl) | (obtain ⟨_, _, _, _, _, _, _, _, _, _, _, _, _, _, _, _, _, _, _, _, _, rfl, _⟩ := h; rfl) | (obtain ⟨_, _, _, _, _, _, _, _, _, _, _, _, _, _, _, _, _, _, _, _, _, _, rfl, _⟩ := h; rfl) | (obtain ⟨_, _, _, _, _, _, _, _, _, _, _, _, _, _, _, _, _, _, _, _, _, _, _, rfl, _⟩ := h; rfl) | (obtain ⟨_, _, _, _, _, _, _, _, _, _, _, _, _, _, _, _, _, _, _, _, _, _, _, _, rfl, _⟩ := h; rfl) | (obtain ⟨_, _, _, _, _, _, _, _, _, _, _, _, _, _, _, _, _, _, _, _, _, _, _, _, _, rfl, _⟩ := h; rfl)) (fun cdv A outer s H vs Q E hr h => ⟨_, d__law_whole c__law_draw m_range m_tuple hr, p_whole12 h⟩)
theorem sc_law : FnScope ["_law_script", "_law_draws_here", "_law_heights_here", "_law_many", "_law_widths_here", "_law_bad_heights", "_law_places", "_law_bad_widths", "_law_width_places", "_law_due", "_law_kept"] ["_law_script"] (defScope s_law) := ⟨rfl, rfl, rfl, by decide +kernel, rfl, by decide +kernel, by decide +kernel⟩
theorem d_law {P : Program} {w : World} {K : PySem.W.Frag} {mg : Str → Option Value} {base : Heap} {C_Profile : Addr} {C_InvalidProfile : Addr} {C_InvalidWidths : Addr} {C_RainError : Addr} {CX : CXT} {f : Addr} {cdv : Value} {A : Around} {outer : List Env} {s : Shared} {H : Hp} {E : XK} (c__law_draws : Cal P w K mg base CX0 1 "_law_draws" ["_law_script"] (spDraws K)) (c__law_heights : Cal P w K mg base CX0 2 "_law_heights" ["_law_draws_here"] (spHeights K)) (m_len : mg "len" = none) (c__law_widths : Cal P w K mg base CX0 2 "_law_widths" ["_law_draws_here", "_law_many"] (spWidths K)) (c__law_spoilt : Cal P w K mg base CX0 3 "_law_spoilt" ["_law_draws_here", "_law_row", "_law_least"] (spSpoilt12 K)) (c__law_first : Cal P w K mg base CX0 1 "_law_first" ["_law_places"] (spFirst12 K)) (c__law_draw : Cal P w K mg base CX0 1 "_law_draw" ["_law_draws_here", "_law_many"] (spDraw K)) (c__law_whole : Cal P w K mg base CX0 2 "_law_whole" ["_law_draws_here", "_law_row", "_law_least_length", "_law_most_length"] (spWhole12 K)) (m_repr : mg "repr" = none) (c__law_made : Cal P w K mg base CX0 7 "_law_made" ["_law_heights_here", "_law_widths_here"] (spMade12 K C_Profile C_InvalidProfile C_InvalidWidths C_RainError)) (m_tuple : mg "tuple" = none) (hgd : A.guards = some [])
    (hr : Room 7 (A.deeper (envOfC "law" (defScope s_law) s.heap.objs.size f cdv))) :
    PSs (cxOf CX P w K mg base ["_law_script", "_law_draws_here", "_law_heights_here", "_law_many", "_law_widths_here", "_law_bad_heights", "_law_places", "_law_bad_widths", "_law_width_places", "_law_due", "_law_kept"] "law" (defScope s_law) f cdv A outer s H E) (defBody s_law) (t_law12 K C_Profile C_InvalidProfile C_InvalidWidths C_RainError) :=
  (pss_cons (ps_set (i := 1) sc_law.nd rfl (by first | exact Or.inl rfl | exact Or.inr rfl) (pe_cal c__law_draws (hr.mono (by decide)) rfl pass0 (pa_cons (pv 0) pa_nil)))
    (pss_cons (ps_set (i := 2) sc_law.nd rfl (by first | exact Or.inl rfl | exact Or.inr rfl) (pe_cal c__law_heights (hr.mono (by decide)) rfl pass0 (pa_cons (pv 1) pa_nil)))
    (pss_cons (ps_set (i := 3) sc_law.nd rfl (by first | exact Or.inl rfl | exact Or.inr rfl) (pe_callB call_len_seq (by rfl) m_len (by decide +kernel) (pa_cons (pv 2) pa_nil)))
    (pss_cons (ps_set (i := 4) sc_law.nd rfl (by first | exact Or.inl rfl | exact Or.inr rfl) (pe_cal c__law_widths (hr.mono (by decide)) rfl pass0 (pa_cons (pv 1) (pa_cons (pv 3) pa_nil))))
    (pss_cons (ps_asg (pe_cal c__law_spoilt (hr.mono (by decide)) rfl pass0 (pa_cons (pv 1) (pa_cons (pv 2) (pa_cons (pe_op op_sub pe_int (pe_op op_pow pe_int pe_int)) pa_nil)))) (pg_tup (by rfl) (pgs_cons (pg_name (i := 5) sc_law.nd rfl (by first | exact Or.inl rfl | exact Or.inr rfl)) (pgs_cons (pg_name (i := 6) sc_law.nd rfl (by first | exact Or.inl rfl | exact Or.inr rfl)) pgs_nil))))
    (pss_cons (ps_asg (pe_cal c__law_spoilt (hr.mono (by decide)) rfl pass0 (pa_cons (pv 1) (pa_cons (pv 4) (pa_cons pe_int pa_nil)))) (pg_tup (by rfl) (pgs_cons (pg_name (i := 7) sc_law.nd rfl (by first | exact Or.inl rfl | exact Or.inr rfl)) (pgs_cons (pg_name (i := 8) sc_law.nd rfl (by first | exact Or.inl rfl | exact Or.inr rfl)) pgs_nil))))
    (pss_cons (ps_set (i := 9) sc_law.nd rfl (by first | exact Or.inl rfl | exact Or.inr rfl) (pe_tup pa_nil))
    (pss_cons (ps_if (pt_cmpR (op_neD hr.units) (pv 8) (pe_lst pa_nil) (nomark _)) (pss_one (ps_set (i := 9) sc_law.nd rfl (by first | exact Or.inl rfl | exact Or.inr rfl) (pe_tup (pa_cons pe_str (pa_cons (pe_cal c__law_first (hr.mono (by decide)) rfl pass0 (pa_cons (pv 8) pa_nil)) (pa_cons pe_bl (pa_cons pe_bl (pa_cons pe_bl pa_nil)))))))) pss_nil)
    (pss_cons (ps_if (pt_cmpR op_eq (pe_cal c__law_draw (hr.mono (by decide)) rfl pass0 (pa_cons (pv 1) (pa_cons pe_int pa_nil))) pe_int (nomark _)) (pss_cons (ps_set (i := 7) sc_law.nd rfl (by first | exact Or.inl rfl | exact Or.inr rfl) (pe_cal c__law_whole (hr.mono (by decide)) rfl pass0 (pa_cons (pv 1) (pa_cons (pv 4) (pa_cons (pv 3) (pa_cons (pv 3) pa_nil))))))
    (pss_one (ps_set (i := 9) sc_law.nd rfl (by first | exact Or.inl rfl | exact Or.inr rfl) (pe_tup (pa_cons pe_str (pa_cons pe_non (pa_cons pe_bl (pa_cons pe_bl (pa_cons pe_bl pa_nil))))))))) pss_nil)
    (pss_cons (ps_if (pt_cmpR (op_neD hr.units) (pv 6) (pe_lst pa_nil) (nomark _)) (pss_one (ps_set (i := 9) sc_law.nd rfl (by first | exact Or.inl rfl | exact Or.inr rfl) (pe_tup (pa_cons pe_str (pa_cons (pe_cal c__law_first (hr.mono (by decide)) rfl pass0 (pa_cons (pv 6) pa_nil)) (pa_cons pe_bl (pa_cons pe_bl (pa_cons pe_bl pa_nil)))))))) pss_nil)
    (pss_cons (ps_if (pt_cmpR op_eq (pe_cal c__law_draw (hr.mono (by decide)) rfl pass0 (pa_cons (pv 1) (pa_cons pe_int pa_nil))) pe_int (nomark _)) (pss_cons (ps_set (i := 5) sc_law.nd rfl (by first | exact Or.inl rfl | exact Or.inr rfl) (pe_cal c__law_whole (hr.mono (by decide)) rfl pass0 (pa_cons (pv 1) (pa_cons (pv 2) (pa_cons pe_int (pa_cons pe_int pa_nil))))))
    (pss_one (ps_set (i := 9) sc_law.nd rfl (by first | exact Or.inl rfl | exact Or.inr rfl) (pe_tup (pa_cons pe_str (pa_cons pe_non (pa_cons pe_bl (pa_cons pe_bl (pa_cons pe_bl pa_nil))))))))) pss_nil)
    (pss_cons (ps_set (i := 10) sc_law.nd rfl (by first | exact Or.inl rfl | exact Or.inr rfl) (pe_callB (call_reprD hgd (hr.mono (by decide))) (by rfl) m_repr (by decide +kernel) (pa_cons (pe_lst (pa_cons (pv 5) (pa_cons (pv 7) pa_nil))) pa_nil)))
    (pss_cons (ps_if (PW.pt (pw_or (pt_cmpR (op_neD hr.units) (pe_cal c__law_made (hr.mono (by decide)) rfl pass0 (pa_cons (pv 5) (pa_cons (pv 7) pa_nil))) (pv 9) (nomark _)) (pw_or1 (pt_cmpR op_ne (pe_callB (call_reprD hgd (hr.mono (by decide))) (by rfl) m_repr (by decide +kernel) (pa_cons (pe_lst (pa_cons (pv 5) (pa_cons (pv 7) pa_nil))) pa_nil)) (pv 10) (nomark _))))) (pss_one (ps_ret pe_bl)) pss_nil)
    (pss_cons (ps_if (PW.pt (pw_and (pt_cmpR (op_neD hr.units) (pv 9) (pe_tup pa_nil) (nomark _)) (pw_and (pt_cmpR op_eq (pe_ix ix_tup (pv 9) pe_int (fun _ _ => rfl)) pe_str (nomark _)) (pw_and1 (pt_cmpR (op_neD hr.units) (pe_cal c__law_made (hr.mono (by decide)) rfl pass0 (pa_cons (pv 5) (pa_cons pe_non pa_nil))) (pv 9) (nomark _)))))) (pss_one (ps_ret pe_bl)) pss_nil)
    (pss_one (ps_ret (pe_and (pe_cmpR (op_eqD hr.units) (pe_cal c__law_made (hr.mono (by decide)) rfl pass0 (pa_cons (pv 2) (pa_cons (pv 4) pa_nil))) (pe_tup pa_nil) (nomark _)) (pe_one (pe_cmpR (op_eqD hr.units) (pe_cal c__law_made (hr.mono (by decide)) rfl pass0 (pa_cons (pe_callTy call_tuple_of (by rfl) m_tuple (by decide +kernel) (pa_cons (pv 2) pa_nil)) (pa_cons pe_non pa_nil))) (pe_tup pa_nil) (nomark _))))))))))))))))))))
theorem ok_law {P : Program} {w : World} {K : PySem.W.Frag} {mg : Str → Option Value} {base : Heap} {C_Profile : Addr} {C_InvalidProfile : Addr} {C_InvalidWidths : Addr} {C_RainError : Addr} {f : Addr} {fd : FuncData} (F : FunD K "law" "law" (defArgs s_law) (defBody s_law) (defScope s_law) [] [] f fd) (c__law_draws : Cal P w K mg base CX0 1 "_law_draws" ["_law_script"] (spDraws K)) (c__law_heights : Cal P w K mg base CX0 2 "_law_heights" ["_law_draws_here"] (spHeights K)) (m_len : mg "len" = none) (c__law_widths : Cal P w K mg base CX0 2 "_law_widths" ["_law_draws_here", "_law_many"] (spWidths K)) (c__law_spoilt : Cal P w K mg base CX0 3 "_law_spoilt" ["_law_draws_here", "_law_row", "_law_least"] (spSpoilt12 K)) (c__law_first : Cal P w K mg base CX0 1 "_law_first" ["_law_places"] (spFirst12 K)) (c__law_draw : Cal P w K mg base CX0 1 "_law_draw" ["_law_draws_here", "_law_many"] (spDraw K)) (c__law_whole : Cal P w K mg base CX0 2 "_law_whole" ["_law_draws_here", "_law_row", "_law_least_length", "_law_most_length"] (spWhole12 K)) (m_repr : mg "repr" = none) (c__law_made : Cal P w K mg base CX0 7 "_law_made" ["_law_heights_here", "_law_widths_here"] (spMade12 K C_Profile C_InvalidProfile C_InvalidWidths C_RainError)) (m_tuple : mg "tuple" = none) : FnOkG P w K mg base CX0 8 f fd ["_law_script"] (spLaw12 K C_Profile C_InvalidProfile C_InvalidWidths C_RainError) :=
  Rv.FunD.okG F sc_law (fun vs H Q E h => by first | (obtain ⟨_, rfl, _⟩ := h; rfl) | (obtain ⟨_, _, rfl, _⟩ := h; rfl) | (obtain ⟨_, _, _, rfl, _⟩ := h; rfl) | (obtain ⟨_, _, _, _, rfl, _⟩ := h; rfl) | (obtain ⟨_, _, _, _, _, rfl, _⟩ := h; rfl) | (obtain ⟨_, _, _, _, _, _, rfl, _⟩ := h; rfl) | (obtain ⟨_, _, _, _, _, _, _, rfl, _⟩ := h; rfl) | (obtain ⟨_, _, _, _, _, _, _, _, rfl, _⟩ := h; rfl) | (obtain ⟨_, _, _, _, _, _, _, _, _, rfl, _⟩ := h; rfl) | (obtain ⟨_, _, _, _, _, _, _, _, _, _, rfl, _⟩ := h; rfl) | (obtain ⟨_, _, _, _, _, _, _, _, _, _, _, rfl, _⟩ := h; rfl) | (obtain ⟨_, _, _, _, _, _, _, _, _, _, _, _, rfl, _⟩ := h; rfl) | (obtain ⟨_, _, _, _, _, _, _, _, _, _, _, _, _, rfl, _⟩ := h; rfl) | (obtain ⟨_, _, _, _, _, _, _, _, _, _, _, _, _, _, rfl, _⟩ := h; rfl) | (obtain ⟨_, _, _, _, _, _, _, _, _, _, _, _, _, _, _, rfl, _⟩ := h; rfl) | (obtain ⟨_, _, _, _, _, _, _, _, _, _, _, _, _, _, _, _, rfl, _⟩ := h; rfl) | (obtain ⟨_, _, _, _, _, _, _, _, _, _, _, _, _, _, _, _, _, rfl, _⟩ := h; rfl) | (obtain ⟨_, _, _, _, _, _, _, _, _, _, _, _, _, _, _, _, _, _, rfl, _⟩ := h; rfl) | (obtain ⟨_, _, _, _, _, _, _, _, _, _, _, _, _, _, _, _, _, _, _, rfl, _⟩ := h; rfl) | (obtain ⟨_, _, _, _, _, _, _, _, _, _, _, _, _, _, _, _, _, _, _, _, rfl, _⟩ := h; rfl) | (obtain ⟨_, _, _, _, _, _, _, _, _, _, _, _, _, _, _, _, _, _, _, _, _, rfl, _⟩ := h; rfl) | (obtain ⟨_, _, _, _, _, _, _, _, _, _, _, _, _, _, _, _, _, _, _, _, _, _, rfl, _⟩ := h; rfl) | (obtain ⟨_, _, _, _, _, _, _, _, _, _, _, _, _, _, _, _, _, _, _, _, _, _, _, rfl, _⟩ := h; rfl) | (obtain ⟨_, _, _, _, _, _, _, _, _, _, _, _, _, _, _, _, _, _, _, _, _, _, _, _, rfl, _⟩ := h; rfl) | (obtain ⟨_, _, _, _, _, _, _, _, _, _, _, _, _, _, _, _, _, _, _, _, _, _, _, _, _, rfl, _⟩ := h; rfl)) (fun cdv A outer s H vs Q E hgd hr h => ⟨_, d_law c__law_draws c__law_heights m_len c__law_widths c__law_spoilt c__law_first c__law_draw c__law_whole m_repr c__law_made m_tuple hgd hr, p_law12 h⟩)
theorem exb_cls {K : PySem.W.Frag} (h : exB K = true) : clB K "Profile" = true := (He.ba h).1
theorem exb_ox_InvalidProfile {K : PySem.W.Frag} (h : exB K = true) : oxB K "InvalidProfile" "ValueError.__new__" bm_ValueError = true := (He.ba (He.ba h).2).1
theorem exb_xf_InvalidProfile {K : PySem.W.Frag} (h : exB K = true) : xfB K (He.ga K "InvalidProfile") = true := (He.ba (He.ba (He.ba h).2).2).1
theorem exb_no_InvalidProfile {K : PySem.W.Frag} (h : exB K = true) : decide (PySem.W.findIn K (.ref (He.ga K "InvalidProfile")) "index" = some none) = true := (He.ba (He.ba (He.ba (He.ba h).2).2).2).1
theorem exb_ec_InvalidProfile {K : PySem.W.Frag} (h : exB K = true) : ecB K "InvalidProfile" = true := (He.ba (He.ba (He.ba (He.ba (He.ba h).2).2).2).2).1
theorem exb_bg_RainError {K : PySem.W.Frag} (h : exB K = true) : bgB K "RainError" "ValueError.__init__" = true := (He.ba (He.ba (He.ba (He.ba (He.ba (He.ba h).2).2).2).2).2).1
theorem exb_ox_InvalidWidths {K : PySem.W.Frag} (h : exB K = true) : oxB K "InvalidWidths" "ValueError.__new__" bm_ValueError = true := (He.ba (He.ba (He.ba (He.ba (He.ba (He.ba (He.ba h).2).2).2).2).2).2).1
theorem exb_xf_InvalidWidths {K : PySem.W.Frag} (h : exB K = true) : xfB K (He.ga K "InvalidWidths") = true := (He.ba (He.ba (He.ba (He.ba (He.ba (He.ba (He.ba (He.ba h).2).2).2).2).2).2).2).1
theorem exb_no_InvalidWidths {K : PySem.W.Frag} (h : exB K = true) : decide (PySem.W.findIn K (.ref (He.ga K "InvalidWidths")) "index" = some none) = true := (He.ba (He.ba (He.ba (He.ba (He.ba (He.ba (He.ba (He.ba (He.ba h).2).2).2).2).2).2).2).2).1
theorem exb_ec_InvalidWidths {K : PySem.W.Frag} (h : exB K = true) : ecB K "InvalidWidths" = true := (He.ba (He.ba (He.ba (He.ba (He.ba (He.ba (He.ba (He.ba (He.ba (He.ba h).2).2).2).2).2).2).2).2).2).1
theorem exb_xm {K : PySem.W.Frag} (h : exB K = true) : xm2B K = true := (He.ba (He.ba (He.ba (He.ba (He.ba (He.ba (He.ba (He.ba (He.ba (He.ba (He.ba h).2).2).2).2).2).2).2).2).2).2).1
theorem exb_sys {K : PySem.W.Frag} (h : exB K = true) : sysB K = true := (He.ba (He.ba (He.ba (He.ba (He.ba (He.ba (He.ba (He.ba (He.ba (He.ba (He.ba h).2).2).2).2).2).2).2).2).2).2).2
theorem facts {P : Program} {w : World} {K : PySem.W.Frag} {h : Heap} {mg : Str → Option Value} {f : Addr} (X : K.In h) (G : h.Ns mainGlobals mg) (hfa : mg ("law" : Str) = some (.ref f)) (c : SaysR fa fn gts exB K) :
    ∃ fd : FuncData, (∀ (s : Shared) (v : Value), BindsTo s fd ⟨[v], []⟩ [("_law_script", v)]) ∧ (PCls K (He.ga K "Profile") ∧ XM2 K (He.ga K "InvalidProfile") (He.ga K "InvalidWidths") (He.ga K "RainError") ∧ SysD K) ∧ ∀ base : Heap, K.In base → base.Ns mainGlobals mg → FnOkG P w K mg base CX0 8 f fd ["_law_script"] (spLaw12 K (He.ga K "Profile") (He.ga K "InvalidProfile") (He.ga K "InvalidWidths") (He.ga K "RainError")) := by
  obtain ⟨fd0, F0⟩ := c.d.def_ 0 (d := D_InvalidProfile___init__) rfl
  obtain ⟨fd1, F1⟩ := c.d.def_ 1 (d := D_InvalidWidths___init__) rfl
  obtain ⟨fd2, F2⟩ := c.d.def_ 2 (d := D_is_whole) rfl
  obtain ⟨fd3, F3⟩ := c.d.def_ 3 (d := D_is_whole_within) rfl
  obtain ⟨fd4, F4⟩ := c.d.def_ 4 (d := D_first_outside) rfl
  obtain ⟨fd5, F5⟩ := c.d.def_ 5 (d := D_is_row) rfl
  obtain ⟨fd6, F6⟩ := c.d.def_ 6 (d := D_check_heights) rfl
  obtain ⟨fd7, F7⟩ := c.d.def_ 7 (d := D_check_widths) rfl
  obtain ⟨fd8, F8⟩ := c.d.def_ 8 (d := D_Profile___init__) rfl
  obtain ⟨fd9, F9⟩ := c.d.def_ 9 (d := D__law_draws) rfl
  obtain ⟨fd10, F10⟩ := c.d.def_ 10 (d := D__law_draw) rfl
  obtain ⟨fd11, F11⟩ := c.d.def_ 11 (d := D__law_heights) rfl
  obtain ⟨fd12, F12⟩ := c.d.def_ 12 (d := D__law_widths) rfl
  obtain ⟨fd13, F13⟩ := c.d.def_ 13 (d := D__law_made) rfl
  obtain ⟨fd14, F14⟩ := c.d.def_ 14 (d := D__law_odd) rfl
  obtain ⟨fd15, F15⟩ := c.d.def_ 15 (d := D__law_spoilt) rfl
  obtain ⟨fd16, F16⟩ := c.d.def_ 16 (d := D__law_first) rfl
  obtain ⟨fd17, F17⟩ := c.d.def_ 17 (d := D__law_whole) rfl
  obtain ⟨fd18, F18⟩ := c.d.def_ 18 (d := D_law) rfl
  have e := hfa.symm.trans (He.glo_ok X G (c.d.fact 37 (f := .glo "law") rfl))
  cases e
  have b := FunD.bindsA (ps := ["_law_script"]) F18 fun _ _ _ _ _ _ us hl => match us, hl with | [_], _ => rfl
  have sdP : PCls K (He.ga K "Profile") := pcls_of (He.cls_ok (c.d.fact 15 (f := .cls "Profile") rfl)) (He.noat_ok (c.d.fact 17 (f := .noat "Profile" "column_heights") rfl)) (He.noat_ok (c.d.fact 18 (f := .noat "Profile" "column_widths") rfl)) (exb_cls c.x)
  have sd : PCls K (He.ga K "Profile") ∧ XM2 K (He.ga K "InvalidProfile") (He.ga K "InvalidWidths") (He.ga K "RainError") ∧ SysD K := ⟨sdP, xm2_of (exb_ox_InvalidProfile c.x) (exb_no_InvalidProfile c.x) (exb_ox_InvalidWidths c.x) (exb_no_InvalidWidths c.x) (exb_xm c.x), sys_of (exb_sys c.x)⟩
  refine ⟨fd18, fun s v => b s [v] rfl, sd, fun base _ _ => ?_⟩
  have m_int := He.free_ok X G (c.d.fact 0 (f := .free "int") rfl)
  have m_isinstance := He.free_ok X G (c.d.fact 1 (f := .free "isinstance") rfl)
  have m_bool := He.free_ok X G (c.d.fact 2 (f := .free "bool") rfl)
  have m_enumerate := He.free_ok X G (c.d.fact 3 (f := .free "enumerate") rfl)
  have m_tuple := He.free_ok X G (c.d.fact 4 (f := .free "tuple") rfl)
  have m_list := He.free_ok X G (c.d.fact 5 (f := .free "list") rfl)
  have m_len := He.free_ok X G (c.d.fact 6 (f := .free "len") rfl)
  have m_MOST_COLUMNS := He.int_ok X G (c.d.fact 7 (f := .int "MOST_COLUMNS" 60) rfl)
  have m_GREATEST := He.int_ok X G (c.d.fact 8 (f := .int "GREATEST" 1000000000000000000000000000000) rfl)
  have m_range := He.free_ok X G (c.d.fact 9 (f := .free "range") rfl)
  have m_ValueError := He.free_ok X G (c.d.fact 10 (f := .free "ValueError") rfl)
  have m_repr := He.free_ok X G (c.d.fact 11 (f := .free "repr") rfl)
  have g_InvalidProfile := He.glo_ok X G (c.d.fact 12 (f := .glo "InvalidProfile") rfl)
  have g_InvalidWidths := He.glo_ok X G (c.d.fact 13 (f := .glo "InvalidWidths") rfl)
  have g_Profile := He.glo_ok X G (c.d.fact 14 (f := .glo "Profile") rfl)
  have k_Profile := He.cls_ok (c.d.fact 15 (f := .cls "Profile") rfl)
  have g_RainError := He.glo_ok X G (c.d.fact 16 (f := .glo "RainError") rfl)
  have nH := He.noat_ok (c.d.fact 17 (f := .noat "Profile" "column_heights") rfl)
  have nW := He.noat_ok (c.d.fact 18 (f := .noat "Profile" "column_widths") rfl)
  have mk := He.mkr_ok (c.d.fact 19 (f := .mkr "Profile") rfl)
  have ox_InvalidProfile := ox_ok PySem.F.excBase_ValueError mok_ve (exb_ox_InvalidProfile c.x)
  have xf_InvalidProfile := xfB_ok (exb_xf_InvalidProfile c.x)
  have no_InvalidProfile_index := of_decide_eq_true (exb_no_InvalidProfile c.x)
  have ec_InvalidProfile := ec_of (exb_ec_InvalidProfile c.x)
  have bg_RainError := bg_ok (exb_bg_RainError c.x)
  have ox_InvalidWidths := ox_ok PySem.F.excBase_ValueError mok_ve (exb_ox_InvalidWidths c.x)
  have xf_InvalidWidths := xfB_ok (exb_xf_InvalidWidths c.x)
  have no_InvalidWidths_index := of_decide_eq_true (exb_no_InvalidWidths c.x)
  have ec_InvalidWidths := ec_of (exb_ec_InvalidWidths c.x)
  have me_ini_InvalidProfile := He.meth_ok (c.d.fact 20 (f := .meth "InvalidProfile" "__init__") rfl)
  have cx_InvalidProfile : CalX P w K mg base CX0 1 "InvalidProfile" (He.ga K "InvalidProfile") ["self", "index"] (spExc K (He.ga K "InvalidProfile") "ValueError" "ValueError.__new__" "ValueError.__init__" bm_ValueError "index") [] "ValueError" "ValueError.__new__" "ValueError.__init__" bm_ValueError := ⟨_, fd0, [], ok_InvalidProfile___init__ F0 bg_RainError g_RainError, ox_InvalidProfile, me_ini_InvalidProfile.at_, beq_iff_eq.mp me_ini_InvalidProfile.fn, g_InvalidProfile, F0.bindsN fun _ _ _ _ _ _ us hl => match us, hl with | [_, _], _ => rfl, .nil⟩
  have me_ini_InvalidWidths := He.meth_ok (c.d.fact 21 (f := .meth "InvalidWidths" "__init__") rfl)
  have cx_InvalidWidths : CalX P w K mg base CX0 1 "InvalidWidths" (He.ga K "InvalidWidths") ["self", "index"] (spExc K (He.ga K "InvalidWidths") "ValueError" "ValueError.__new__" "ValueError.__init__" bm_ValueError "index") [] "ValueError" "ValueError.__new__" "ValueError.__init__" bm_ValueError := ⟨_, fd1, [], ok_InvalidWidths___init__ F1 bg_RainError g_RainError, ox_InvalidWidths, me_ini_InvalidWidths.at_, beq_iff_eq.mp me_ini_InvalidWidths.fn, g_InvalidWidths, F1.bindsN fun _ _ _ _ _ _ us hl => match us, hl with | [_, _], _ => rfl, .nil⟩
  have c_is_whole : Cal P w K mg base CX0 1 "is_whole" ["value"] (spWhole K) := ⟨_, fd2, ok_is_whole F2 m_int m_isinstance m_bool, He.glo_ok X G (c.d.fact 22 (f := .glo "is_whole") rfl), F2.kp, F2.bindsN fun _ _ _ _ _ _ us hl => match us, hl with | [_], _ => rfl⟩
  have c_is_whole_within : Cal P w K mg base CX0 2 "is_whole_within" ["value", "least", "greatest"] (spWithin K) := ⟨_, fd3, ok_is_whole_within F3 c_is_whole, He.glo_ok X G (c.d.fact 23 (f := .glo "is_whole_within") rfl), F3.kp, F3.bindsN fun _ _ _ _ _ _ us hl => match us, hl with | [_, _, _], _ => rfl⟩
  have c_first_outside : Cal P w K mg base CX0 3 "first_outside" ["values", "least", "greatest"] (spOutside K) := ⟨_, fd4, ok_first_outside F4 m_enumerate c_is_whole_within, He.glo_ok X G (c.d.fact 24 (f := .glo "first_outside") rfl), F4.kp, F4.bindsN fun _ _ _ _ _ _ us hl => match us, hl with | [_, _, _], _ => rfl⟩
  have c_is_row : Cal P w K mg base CX0 1 "is_row" ["values", "least", "most"] (spRowX K) := ⟨_, fd5, ok_is_row F5 m_tuple m_list m_isinstance m_len, He.glo_ok X G (c.d.fact 25 (f := .glo "is_row") rfl), F5.kp, F5.bindsN fun _ _ _ _ _ _ us hl => match us, hl with | [_, _, _], _ => rfl⟩
  have c_check_heights : Cal P w K mg base (L2.CX P w) 4 "check_heights" ["heights"] (spChkHX K (He.ga K "InvalidProfile")) := ⟨_, fd6, ok_check_heights F6 m_MOST_COLUMNS c_is_row cx_InvalidProfile m_GREATEST c_first_outside, He.glo_ok X G (c.d.fact 26 (f := .glo "check_heights") rfl), F6.kp, F6.bindsN fun _ _ _ _ _ _ us hl => match us, hl with | [_], _ => rfl⟩
  have c_check_widths : Cal P w K mg base (L2.CX P w) 4 "check_widths" ["widths", "many"] (spChkWX K (He.ga K "InvalidWidths")) := ⟨_, fd7, ok_check_widths F7 c_is_row cx_InvalidWidths m_GREATEST c_first_outside, He.glo_ok X G (c.d.fact 27 (f := .glo "check_widths") rfl), F7.kp, F7.bindsN fun _ _ _ _ _ _ us hl => match us, hl with | [_, _], _ => rfl⟩
  obtain ⟨ds2, v2, b2⟩ := F8.binds1 (ps := ["self", "heights", "widths"]) 3 1 (show ([V.non] : List V) ≠ [] from List.cons_ne_nil _ _) rfl (fun _ _ _ _ _ _ _ us its h1 h2 => match us, its, h1, h2 with | [_, _, _], [_], _, _ => ⟨_, rfl, rfl⟩)
  have cm2_Profile : CalM P w K mg base (L2.CX P w) 5 "Profile" (He.ga K "Profile") ["self", "heights", "widths"] (spInitX K (He.ga K "Profile") (He.ga K "InvalidProfile") (He.ga K "InvalidWidths")) [] := ⟨_, fd8, ds2, ok_Profile___init__ F8 c_check_heights m_len c_check_widths m_tuple, mk, g_Profile, b2, v2⟩
  have c__law_draws : Cal P w K mg base CX0 1 "_law_draws" ["_law_script"] (spDraws K) := ⟨_, fd9, ok__law_draws F9 , He.glo_ok X G (c.d.fact 28 (f := .glo "_law_draws") rfl), F9.kp, F9.bindsN fun _ _ _ _ _ _ us hl => match us, hl with | [_], _ => rfl⟩
  have c__law_draw : Cal P w K mg base CX0 1 "_law_draw" ["_law_draws_here", "_law_many"] (spDraw K) := ⟨_, fd10, ok__law_draw F10 m_len, He.glo_ok X G (c.d.fact 29 (f := .glo "_law_draw") rfl), F10.kp, F10.bindsN fun _ _ _ _ _ _ us hl => match us, hl with | [_, _], _ => rfl⟩
  have c__law_heights : Cal P w K mg base CX0 2 "_law_heights" ["_law_draws_here"] (spHeights K) := ⟨_, fd11, ok__law_heights F11 c__law_draw m_int m_range, He.glo_ok X G (c.d.fact 30 (f := .glo "_law_heights") rfl), F11.kp, F11.bindsN fun _ _ _ _ _ _ us hl => match us, hl with | [_], _ => rfl⟩
  have c__law_widths : Cal P w K mg base CX0 2 "_law_widths" ["_law_draws_here", "_law_many"] (spWidths K) := ⟨_, fd12, ok__law_widths F12 c__law_draw m_range, He.glo_ok X G (c.d.fact 31 (f := .glo "_law_widths") rfl), F12.kp, F12.bindsN fun _ _ _ _ _ _ us hl => match us, hl with | [_, _], _ => rfl⟩
  have c__law_made : Cal P w K mg base CX0 7 "_law_made" ["_law_heights_here", "_law_widths_here"] (spMade12 K (He.ga K "Profile") (He.ga K "InvalidProfile") (He.ga K "InvalidWidths") (He.ga K "RainError")) := ⟨_, fd13, ok__law_made F13 cm2_Profile g_InvalidWidths ec_InvalidProfile m_isinstance m_ValueError g_RainError xf_InvalidProfile no_InvalidProfile_index g_InvalidProfile ec_InvalidWidths xf_InvalidWidths no_InvalidWidths_index, He.glo_ok X G (c.d.fact 32 (f := .glo "_law_made") rfl), F13.kp, F13.bindsN fun _ _ _ _ _ _ us hl => match us, hl with | [_, _], _ => rfl⟩
  have c__law_odd : Cal P w K mg base CX0 2 "_law_odd" ["_law_draws_here", "_law_least"] (spOdd12 K) := ⟨_, fd14, ok__law_odd F14 c__law_draw, He.glo_ok X G (c.d.fact 33 (f := .glo "_law_odd") rfl), F14.kp, F14.bindsN fun _ _ _ _ _ _ us hl => match us, hl with | [_, _], _ => rfl⟩
  have c__law_spoilt : Cal P w K mg base CX0 3 "_law_spoilt" ["_law_draws_here", "_law_row", "_law_least"] (spSpoilt12 K) := ⟨_, fd15, ok__law_spoilt F15 m_list c__law_draw m_range m_len c__law_odd, He.glo_ok X G (c.d.fact 34 (f := .glo "_law_spoilt") rfl), F15.kp, F15.bindsN fun _ _ _ _ _ _ us hl => match us, hl with | [_, _, _], _ => rfl⟩
  have c__law_first : Cal P w K mg base CX0 1 "_law_first" ["_law_places"] (spFirst12 K) := ⟨_, fd16, ok__law_first F16 , He.glo_ok X G (c.d.fact 35 (f := .glo "_law_first") rfl), F16.kp, F16.bindsN fun _ _ _ _ _ _ us hl => match us, hl with | [_], _ => rfl⟩
  have c__law_whole : Cal P w K mg base CX0 2 "_law_whole" ["_law_draws_here", "_law_row", "_law_least_length", "_law_most_length"] (spWhole12 K) := ⟨_, fd17, ok__law_whole F17 c__law_draw m_range m_tuple, He.glo_ok X G (c.d.fact 36 (f := .glo "_law_whole") rfl), F17.kp, F17.bindsN fun _ _ _ _ _ _ us hl => match us, hl with | [_, _, _, _], _ => rfl⟩
  exact ok_law F18 c__law_draws c__law_heights m_len c__law_widths c__law_spoilt c__law_first c__law_draw c__law_whole m_repr c__law_made m_tuple
end Rv
open PySem PySem.W PySem.Calls PyProof.Rows
theorem PySem.Challenge.cw_rainvalleys_k12_invalid_profiles_holds : PySem.Challenge.rw_rainvalleys_k12_invalid_profiles.Holds := by
  w_on; o_law
  refine HandSHeadRun.head_any (r := OpenLaw.row PySem.Challenge.rw_rainvalleys_k12_invalid_profiles) (q := view (OpenLaw.row PySem.Challenge.rw_rainvalleys_k12_invalid_profiles).prog [27]) (H := Rv.hk) (ob := Rv.ob) (M := 8000) (loose := Rv.loose) (d := HandSHeadRun.topDef (OpenLaw.row PySem.Challenge.rw_rainvalleys_k12_invalid_profiles).prog 27) (kwd := []) Rv.ob_eq
    (by kernel_rfl) (fun s => by kernel_rfl) Rv.run (by kernel_rfl) (by kernel_rfl) (by kernel_rfl) (by rfl) (by first | assumption | decide +kernel) (by decide +kernel) ⟨rfl, rfl, rfl, rfl, rfl, by decide +kernel⟩ ?hw ?hc
  case hw => w_witness2
  case hc =>
    refine Rv.walk_ofG (l := PySem.Challenge.rw_rainvalleys_k12_invalid_profiles) (n := 63) (k := 8) (x := "_law_script") (CX := L2.CX0) rfl (by decide) (by kernel_rfl) ⟨rfl, by decide, by decide⟩ ?F (fun _ _ _ _ z => z)
    intro w mg fa h Y G hmg0
    obtain ⟨K, KX, c⟩ := Y
    have hmg : mg ("law" : PySem.Str) = some (.ref fa) := by
      have e : (HandSHeadRun.topDef (OpenLaw.row PySem.Challenge.rw_rainvalleys_k12_invalid_profiles).prog 27).name = ("law" : PySem.Str) := by kernel_rfl
      rw [← e]
      exact hmg0
    obtain ⟨fd, hb, sd, hF⟩ := Rv.facts (P := (PySem.Challenge.rw_rainvalleys_k12_invalid_profiles).prog) (w := w) KX G hmg c
    exact ⟨K, fd, _, KX, hb, fun H a ns hl hO hS => ⟨a, ns, rfl, hS, sd.1, sd.2.1, sd.2.2, fun _ => rfl⟩, hF⟩

