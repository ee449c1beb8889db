import PyProof.Rows.All
import Wide.All
import OpenK.AllK
import Wide.FinOn
import KE.KStateDown
import Lean
import HandS.ForMost
import HandS.ForExc
import HandS.Defaults
import HandS.ExcInit
import HandS.ExcField
import HandS.ExcIs
import HandS.IsInst
import HandS.ClsMeth
import HandS.Conv
import HandS.Codes
import HandS.Evl
import HandS.Style
import HandS.CallSlots
import HandS.Head0
import HandS.Head1
import HandS.Head2
import HandS.HeadEnd
import HandS.HeadHook1
import HandS.HeadHook2
import HandS.HeadNt
import KE.KExcIs
import PySem.Challenge.RW_ridesonce_k00_a_town_holds_its_lists
set_option Elab.async false
set_option linter.all false
set_option maxRecDepth 100000
set_option maxHeartbeats 0
open Evl (Ex)
namespace Rb
open PySem PySem.Spec PyProof.Rows L2 He
open PySem.W (Frag)
/-! ### the head's facts: He's own, then any Bool of the written part -/
def obsR (fa : List Fa) (ex : List (Frag → Bool)) (fn : List He5.DefA) (K : Frag) : He.AlD := (((fa.all fun f => f.ok K) && (ex.all fun f => f K)) && fn.all fun d => d.ok K, fn.map fun d => He5.fnA K (d.at_ K))
def SaysR (fa : List Fa) (ex : List (Frag → Bool)) (fn : List He5.DefA) (K : Frag) : Prop := obsR fa ex fn K = He5.valA fn
def obsRG (n : Nat) (fa : List Fa) (ex : List (Frag → Bool)) (fn : List He5.DefA) (g : Addr → Option Obj) : He.AlD := obsR fa ex fn (frG g (He5.asA g n))
def hookR (n : Nat) (fa : List Fa) (ex : List (Frag → Bool)) (fn : List He5.DefA) : PySem.W.Hook where
  α := He.AlD
  obs := fun s => obsRG n fa ex fn s.heap.get?
  val := fun _ => He5.valA fn
  says := fun _ h => ∃ K : Frag, K.In h ∧ SaysR fa ex fn K
  of := fun _ _ e => ⟨_, frG_in, e⟩
  keeps := fun _ _ _ ⟨K, hK, c⟩ k => ⟨K, PySem.W.Frag.In.keeps hK k, c⟩
theorem obsRG_eq {n : Nat} {fa : List Fa} {ex : List (Frag → Bool)} {fn : List He5.DefA} {g : Addr → Option Obj} {s : Shared} (h : ∀ a, g a = s.heap.get? a) : obsRG n fa ex fn g = (hookR n fa ex fn).obs s := by
  have e : g = s.heap.get? := funext h
  rw [e] <;> rfl
section
variable {fa : List Fa} {ex : List (Frag → Bool)} {fn : List He5.DefA} {K : Frag}
theorem SaysR.fact (c : SaysR fa ex fn K) (i : Nat) {f : Fa} (h : fa[i]? = some f := by rfl) : f.ok K = true := by
  have c1 := (ba (ba (show ((((fa.all fun f => f.ok K) && (ex.all fun f => f K)) && fn.all fun d => d.ok K)) = true from congrArg (fun z : He.AlD => z.1) c)).1).1
  exact List.all_eq_true.mp c1 f (List.mem_of_getElem? h)
theorem SaysR.more (c : SaysR fa ex fn K) (i : Nat) {f : Frag → Bool} (h : ex[i]? = some f := by rfl) : f K = true := by
  have c1 := (ba (ba (show ((((fa.all fun f => f.ok K) && (ex.all fun f => f K)) && fn.all fun d => d.ok K)) = true from congrArg (fun z : He.AlD => z.1) c)).1).2
  exact List.all_eq_true.mp c1 f (List.mem_of_getElem? h)
theorem SaysR.def_ (c : SaysR fa ex fn K) (i : Nat) {d : He5.DefA} (h : fn[i]? = some d := by rfl) : ∃ fd, L2.FunD K d.name d.qual d.params d.body d.scope (d.dvs K) (d.kws K) (d.at_ K) fd := by
  have c2 := (ba (show ((((fa.all fun f => f.ok K) && (ex.all fun f => f K)) && fn.all fun d => d.ok K)) = true from congrArg (fun z : He.AlD => z.1) c)).2
  have e : fn.map (fun d => He5.fnA K (d.at_ K)) = fn.map He5.DefA.val := congrArg (fun z : He.AlD => z.2) c
  have e2 : (fn.map fun d => He5.fnA K (d.at_ K))[i]? = (fn.map He5.DefA.val)[i]? := by rw [e]
  rw [List.getElem?_map, List.getElem?_map, h] at e2
  exact He5.DefA.funD (Option.some.inj e2) (List.all_eq_true.mp c2 d (List.mem_of_getElem? h))
end
/-! ### an own exception with its own __init__ -/
def oexB (K : Frag) (C : Addr) : Bool := (match K.lookup C with
  | some ⟨.type "type", _, .cls cd, sl⟩ => (match cd.mro, sl.toList with
    | .ref C' :: bm, [_, _, _, _, some (.builtin n), _] => decide (C' = C) && (decide (n = "ValueError.__new__") && (!cd.hasDel && (HandSPX.refsVE bm && cd.hasDict)))
    | _, _ => false)
  | _ => false) && (eqO (PySem.W.findIn K (.ref C) "__setattr__") (some (some (.builtin "object.__setattr__"))) && (decide (PySem.W.subIn K (.ref C) (.type "BaseException") = some true) && (decide (PySem.W.typeIn K (.ref C) = some (.type "type")) && PySem.W.keepIn K (.ref C))))
theorem oexB_ok {K : Frag} {C : Addr} (h : oexB K C = true) : OexC K C := by
  obtain ⟨h1, h⟩ := ba h
  obtain ⟨h2, h⟩ := ba h
  obtain ⟨h3, h⟩ := ba h
  obtain ⟨h4, h5⟩ := ba h
  refine ⟨?_, eqO_ok h2, of_decide_eq_true h3, of_decide_eq_true h4, h5⟩
  split at h1
  · rename_i dd cd sl ho
    split at h1
    · rename_i C' bm k0 k1 k2 k3 n k5 hm hs
      obtain ⟨q1, h1⟩ := ba h1
      obtain ⟨q2, h1⟩ := ba h1
      obtain ⟨q3, h1⟩ := ba h1
      obtain ⟨q4, q5⟩ := ba h1
      have q1 := of_decide_eq_true q1
      have q2 := of_decide_eq_true q2
      subst q1 q2
      obtain ⟨nm, bs, mro, ns, qn, hd, sn, sub, ab, col, del⟩ := cd
      dsimp only at hm q3 q5
      have q3' : del = false := by cases del with | false => rfl | true => cases q3
      subst hm q3' q5
      have hsl : sl = #[k0, k1, k2, k3, some (.builtin "ValueError.__new__"), k5] := by
        obtain ⟨l⟩ := sl
        simp only at hs
        rw [hs]
      subst hsl
      exact ⟨nm, qn, ns, bs, bm, sn, sub, ab, col, dd, k0, k1, k2, k3, k5, ho, q4⟩
    · cases h1
  · cases h1
/-- an own exception's instance is asked by isinstance -/
def excB (K : Frag) (D : Addr) : Bool := eqO (PySem.W.findIn K (.ref D) "__getattribute__") (some (some (.builtin "BaseException.__getattribute__"))) && (eqO (PySem.W.findIn K (.ref D) "__getattr__") (some none) &&
  (decide (PySem.W.subIn K (.ref D) (.type "BaseException") = some true) && (PySem.W.hasDictIn K D && (eqO (PySem.W.findIn K (.ref D) "__class__") (some (some (.builtin "object.__class__"))) &&
  (eqO (PySem.W.specialIn K (.builtin "object.__class__") "__get__") (some (some (.builtin "getset_descriptor.__get__"))) && (decide (PySem.W.takesIn K (.builtin "object.__class__") = some true) && decide (PySem.W.mroIn K D (.type "object") = some true)))))))
theorem excB_ok {K : Frag} {C : Addr} (h : excB K C = true) : ExcC K C := by
  obtain ⟨h1, h⟩ := ba h
  obtain ⟨h2, h⟩ := ba h
  obtain ⟨h3, h⟩ := ba h
  obtain ⟨h4, h⟩ := ba h
  obtain ⟨h5, h⟩ := ba h
  obtain ⟨h6, h⟩ := ba h
  obtain ⟨h7, h8⟩ := ba h
  exact ⟨eqO_ok h1, eqO_ok h2, of_decide_eq_true h3, h4, eqO_ok h5, eqO_ok h6, of_decide_eq_true h7, of_decide_eq_true h8⟩
/-- a constant of a class -/
def conB (K : Frag) (C : Addr) (f : PySem.Str) (i : Int) : Bool := (match PySem.W.findIn K (.ref C) f with
  | some (some (.int j t)) => decide (j = i) && decide (PySem.W.specialIn K (.int j t) "__get__" = some none)
  | _ => false) && !PySem.W.copiedNames.contains f
theorem conB_ok {K : Frag} {C : Addr} {f : PySem.Str} {i : Int} (h : conB K C f i = true) : ∃ u, Con K C f (.int i) u := by
  obtain ⟨h1, h2⟩ := ba h
  have h2' : PySem.W.copiedNames.contains f = false := by
    cases e : PySem.W.copiedNames.contains f with
    | false => rfl
    | true => rw [e] at h2; cases h2
  split at h1
  · rename_i j t e
    obtain ⟨q1, q2⟩ := ba h1
    have q1 := of_decide_eq_true q1
    subst q1
    exact ⟨_, e, ⟨t, rfl⟩, of_decide_eq_true q2, h2'⟩
  · cases h1
def cvalB (K : Frag) (C : Addr) (f : PySem.Str) (i : Int) : Bool := (match PySem.W.findCls K (.ref C) (.type "type") f with
  | some (.val (.int j _)) => decide (j = i)
  | _ => false)
theorem cvalB_ok {K : Frag} {C : Addr} {f : PySem.Str} {i : Int} (h : cvalB K C f i = true) : ∃ u, ClX.CVal K C (.type "type") f (.int i) u := by
  unfold cvalB at h
  split at h
  · rename_i j t e
    have q1 := of_decide_eq_true h
    subst q1
    exact ⟨_, e, ⟨t, rfl⟩⟩
  · cases h
def creadB (K : Frag) (C : Addr) : Bool := PySem.W.readsIn K C (.type "type") && eqO (PySem.W.specialIn K (.ref C) "__getattribute__") (some (some (.builtin "type.__getattribute__")))
theorem creadB_ok {K : Frag} {C : Addr} (h : creadB K C = true) : ClX.CRead K C (.type "type") := by
  obtain ⟨h1, h2⟩ := ba h
  exact ⟨h1, eqO_ok h2⟩
end Rb

namespace Rb
open PySem PySem.Spec PyProof.Rows L2
open PySem.W (Frag)
/-! ### defs by name: what they promise -/
structure Cal (P : Program) (w : World) (K : Frag) (mg : Str → Option Value) (base : Heap) (k : Nat) (x : Str) (sp : Sp) : Prop where
  ex : ∃ (f : Addr) (fd : FuncData) (ps : List Str), FnOk P w K mg base (L2.CX P w) k f fd ps sp ∧ mg x = some (.ref f) ∧ PySem.W.keepIn K (.ref f) = true ∧ Binds K fd ps []
structure Met (P : Program) (w : World) (K : Frag) (mg : Str → Option Value) (base : Heap) (k : Nat) (C : Addr) (m : Str) (sp : Sp) : Prop where
  ex : ∃ (f : Addr) (fd : FuncData) (ps : List Str), FnOk P w K mg base (L2.CX P w) k f fd ps sp ∧ Cls K C ∧ Meth K C m f ∧ Binds K fd ps []
section
variable {X : Cx} {k j : Nat} {C : Addr} {sp : Sp} {E : L2.St → XK} {x m : Str} {p pos apos : Pos} {e o : Expr} {es : List Expr} {ta : TE} {t : TA} {pl : Sem Bool}
theorem pe_cal (c : Cal X.prog X.w X.K X.mg X.base k x sp) (hr : Room j X.A) (hk : k ≤ j) (hg : Gl X x) (ha : PA X (e :: es) t) (hdb : (x == ("__debug__" : Str)) = false := by decide)
    (he : starEach (e :: es) X.env = (false, eval e X.env) :: starEach es X.env := by rfl) (hpl : (backTo pos (starEach es X.env)).any (·.1) = false := by rfl) :
    PE X (.Call (.Name x p) (e :: es) [] pos) (tCall sp [] E0 t) := by
  obtain ⟨f, fd, ps, F, m, kp, b⟩ := c.ex
  exact pe_call F (hr.mono hk) hg m kp b .nil passL ha hdb he hpl
theorem pe_calS {W : WX} (c : Cal X.prog X.w X.K X.mg X.base k x sp) (tk : Takes X W) (hr : Room j X.A) (hk : k ≤ j) (hg : Gl X x) (ha : PA X (e :: es) t) (hdb : (x == ("__debug__" : Str)) = false := by decide)
    (he : starEach (e :: es) X.env = (false, eval e X.env) :: starEach es X.env := by rfl) (hpl : (backTo pos (starEach es X.env)).any (·.1) = false := by rfl) :
    PE X (.Call (.Name x p) (e :: es) [] pos) (tCallS sp (WE W) t) := by
  obtain ⟨f, fd, ps, F, m, kp, b⟩ := c.ex
  exact pe_callS F (hr.mono hk) hg m kp b (fun σ => passAt tk σ) ha hdb he hpl
/-- o.m(e, ..), what is raised wished for at the slots -/
def tMethS (C : Addr) (m : Str) (sp : Sp) (E : L2.St → XK) (ta : TE) (t : TA) : TE := fun σ H Q => ta σ H fun x H1 => ∃ a dx fs, x = .ref a ∧ H1 a = some (.ins C dx fs) ∧ fs.lookup m = none ∧
  t σ H1 fun vs H2 => sp (x :: vs) H2 Q (E σ)
theorem pe_met (c : Met X.prog X.w X.K X.mg X.base k C m sp) (hr : Room j X.A) (hk : k ≤ j) (he : PE X o ta) (ha : PA X (e :: es) t)
    (hst : starEach (e :: es) X.env = (false, eval e X.env) :: starEach es X.env := by rfl) (hpl : (backTo pos (starEach es X.env)).any (·.1) = false := by rfl)
    (ht : eval (.Call (.Attribute o m apos) (e :: es) [] pos) X.env = (do
      let ov ← eval o X.env
      standAt apos.atName
      let (f, first) ← holding [ov] (getMethod ov m pl)
      callWith pos f first (backTo pos (starEach (e :: es) X.env)) (backToKw pos (keywordEach [] X.env))) := by rfl) :
    PE X (.Call (.Attribute o m apos) (e :: es) [] pos) (tMeth C m sp [] E0 ta t) := by
  obtain ⟨f, fd, ps, F, cl, mt, b⟩ := c.ex
  exact pe_meth he cl mt F (hr.mono hk) b .nil passL ha hst hpl ht
theorem pe_met0 (c : Met X.prog X.w X.K X.mg X.base k C m sp) (hr : Room j X.A) (hk : k ≤ j) (he : PE X o ta)
    (ht : eval (.Call (.Attribute o m apos) [] [] pos) X.env = (do
      let ov ← eval o X.env
      standAt apos.atName
      let (f, first) ← holding [ov] (getMethod ov m pl)
      callWith pos f first (backTo pos (starEach [] X.env)) (backToKw pos (keywordEach [] X.env))) := by rfl) :
    PE X (.Call (.Attribute o m apos) [] [] pos) (tMeth C m sp [] E0 ta tNil) := by
  obtain ⟨f, fd, ps, F, cl, mt, b⟩ := c.ex
  exact pe_meth0 he cl mt F (hr.mono hk) b .nil passL ht
theorem pe_metS {W : WX} (c : Met X.prog X.w X.K X.mg X.base k C m sp) (tk : Takes X W) (hr : Room j X.A) (hk : k ≤ j) (he : PE X o ta) (ha : PA X (e :: es) t)
    (hst : starEach (e :: es) X.env = (false, eval e X.env) :: starEach es X.env := by rfl) (hpl : (backTo pos (starEach es X.env)).any (·.1) = false := by rfl)
    (ht : eval (.Call (.Attribute o m apos) (e :: es) [] pos) X.env = (do
      let ov ← eval o X.env
      standAt apos.atName
      let (f, first) ← holding [ov] (getMethod ov m pl)
      callWith pos f first (backTo pos (starEach (e :: es) X.env)) (backToKw pos (keywordEach [] X.env))) := by rfl) :
    PE X (.Call (.Attribute o m apos) (e :: es) [] pos) (tMethS C m sp (WE W) ta t) := by
  obtain ⟨f, fd, ps, F, cl, mt, b⟩ := c.ex
  refine ⟨fun pins s σ H Q I h => ?_⟩
  refine PySem.W.methodCall_KW (pl := pl) (thn (he.run pins s σ H _ I h) fun u s1 ⟨x, H1, I1, rx, a, dx, fs, ex, ea, l, q⟩ => ?_) ht
  subst ex
  obtain rfl : u = Value.ref a := rx
  refine getmeth_ok I1 ea cl mt l ?_
  refine PySem.W.callWith_K (first := [.ref a]) (h₀ := X.base) I.ok.mod.kin mt.kp (thn (ha.run pos pins s1 σ H1 _ I1 q) fun us s2 ⟨vs, H2, I2, r, q2⟩ => ⟨I2.kIn, ?_⟩) hst hpl
  exact run_fnS (us := .ref a :: us) (vs := .ref a :: vs) F (hr.mono hk) b (passAt tk σ) I2 (.cons rfl r) q2
end
/-! ### a def's body, whatever it lets out; and one that lets nothing out -/
section
variable {P : Program} {w : World} {K : Frag} {mg : Str → Option Value} {base : Heap} {x qual : Str} {st : Stmt} {f : Addr} {fd : FuncData} {N ps : List Str} {k : Nat} {sp : Sp}
abbrev FnP (K : Frag) (x qual : Str) (st : Stmt) (f : Addr) (fd : FuncData) : Prop := FunD K x qual (defArgs st) (defBody st) (defScope st) [] [] f fd
abbrev CtxX (P : Program) (w : World) (K : Frag) (mg : Str → Option Value) (base : Heap) (N : List Str) (qual : Str) (st : Stmt) (f : Addr) (cdv : Value) (A : Around) (outer : List Env) (s : Shared) (H : Hp) (E : XK) : Cx := cxOf (L2.CX P w) P w K mg base N qual (defScope st) f cdv A outer s H E
theorem fn_okX (F : FnP K x qual st f fd) (S : FnScope N ps (defScope st)) (len : ∀ vs H Q E, sp vs H Q E → vs.length = ps.length)
    (hbody : ∀ (cdv : Value) (A : Around) (outer : List Env) (s : Shared) (H : Hp) (vs : List V) (Q : VK) (E : XK), Room k (A.deeper (envOfC qual (defScope st) s.heap.objs.size f cdv)) → sp vs H Q E →
      ∃ t, PSs (CtxX P w K mg base N qual st f cdv A outer s H E) (defBody st) t ∧ t { nx := fun _ H' => Q .non H', rt := Q } (start N vs) H) : FnOk P w K mg base (L2.CX P w) (k + 1) f fd ps sp :=
  F.ok S len hbody
theorem fn_ok0 (F : FnP K x qual st f fd) (S : FnScope N ps (defScope st)) (len : ∀ vs H Q E, sp vs H Q E → vs.length = ps.length)
    (hbody : ∀ (cdv : Value) (A : Around) (outer : List Env) (s : Shared) (H : Hp) (vs : List V) (Q : VK) (E : XK), Room k (A.deeper (envOfC qual (defScope st) s.heap.objs.size f cdv)) → sp vs H Q E →
      ∃ t, PSs (CtxX P w K mg base N qual st f cdv A outer s H E).nox (defBody st) t ∧ t { nx := fun _ H' => Q .non H', rt := Q } (start N vs) H) : FnOk P w K mg base (L2.CX P w) (k + 1) f fd ps sp :=
  F.ok S len fun cdv A outer s H vs Q E hr h => by
    obtain ⟨t, h1, h2⟩ := hbody cdv A outer s H vs Q E hr h
    exact ⟨t, h1.nox, h2⟩
theorem cal_of {f : Addr} (F : FnP K x x st f fd) (h : FnOk P w K mg base (L2.CX P w) k f fd ps sp) (m : mg x = some (.ref f))
    (hb : ∀ (kV doc pm : Value) (an : Option Addr) (cdv ct : Value) (us : List Value), us.length = ps.length → bindArgs (PySem.W.fnOf x x (defArgs st) (defBody st) (defScope st) .none kV doc pm an cdv ct) ⟨us, []⟩ = pure (ps.zip us)) :
    Cal P w K mg base k x sp := ⟨f, fd, ps, h, m, F.kp, F.bindsN hb⟩
theorem met_of {C : Addr} {m : Str} (F : FnP K m qual st f fd) (h : FnOk P w K mg base (L2.CX P w) k f fd ps sp) (c : Cls K C) (mt : Meth K C m f)
    (hb : ∀ (kV doc pm : Value) (an : Option Addr) (cdv ct : Value) (us : List Value), us.length = ps.length → bindArgs (PySem.W.fnOf m qual (defArgs st) (defBody st) (defScope st) .none kV doc pm an cdv ct) ⟨us, []⟩ = pure (ps.zip us)) :
    Met P w K mg base k C m sp := ⟨f, fd, ps, h, c, mt, F.bindsN hb⟩
end
/-! ### own exceptions with one field -/
def spXInit (C : Addr) (f : Str) : Sp := fun vs H Q _ => ∃ (a : Addr) (v : V), vs = [.ref a, v] ∧ H a = some (exo a C none) ∧
  ∀ dx, H dx = none → dx ≠ a → Q .non (upd (upd H dx (exd dx [(f, v)])) a (exo a C (some dx)))
/-- the class named x, at C, its one field f -/
structure XMk (P : Program) (w : World) (K : Frag) (mg : Str → Option Value) (base : Heap) (x : Str) (C : Addr) (f : Str) : Prop where
  T : OexC K C
  gC : mg x = some (.ref C)
  nf : PySem.W.findIn K (.ref C) f = some none
  ex : ∃ (fI : Addr) (fd : FuncData) (ps : List Str), PySem.W.findIn K (.ref C) "__init__" = some (some (.ref fI)) ∧ PySem.W.typeIn K (.ref fI) = some (.type "function") ∧
    FnOk P w K mg base (L2.CX P w) 1 fI fd ps (spXInit C f) ∧ Binds K fd ps []
def tMkX (C : Addr) (f : Str) (ta : TA) : L2.St → Hp → XK → Prop := fun σ H Q => ta σ H fun vs H1 => ∃ v, vs = [v] ∧ ∀ d, H1 d = none → Q (.ref C) (some d) (upd H1 d (.xd [(f, v)]))
theorem PMk.imp {X : Cx} {e : Expr} {t t' : L2.St → Hp → XK → Prop} (h : PMk X e t) (hi : ∀ σ H Q, t' σ H Q → t σ H Q) : PMk X e t' := fun pins s σ H Q I q => h pins s σ H Q I (hi σ H Q q)
/-- an argument list's reading may be weakened behind -/
def Mono (ta : TA) : Prop := ∀ σ H (Q Q' : List V → Hp → Prop), (∀ vs H1, Q vs H1 → Q' vs H1) → ta σ H Q → ta σ H Q'
theorem pmk_x {X : Cx} {x : Str} {C : Addr} {f : Str} {j : Nat} {e : Expr} {es : List Expr} {ta : TA} {p pos : Pos} (M : XMk X.prog X.w X.K X.mg X.base x C f) (mo : Mono ta) (hr : Room j X.A) (hj : 2 ≤ j) (hg : Gl X x) (ha : PA X (e :: es) ta)
    (hdb : (x == ("__debug__" : Str)) = false := by decide) (he : starEach (e :: es) X.env = (false, eval e X.env) :: starEach es X.env := by rfl) (hpl : (backTo pos (starEach es X.env)).any (·.1) = false := by rfl) :
    PMk X (.Call (.Name x p) (e :: es) [] pos) (tMkX C f ta) := by
  obtain ⟨fI, fd, ps, iC, tI, F, b⟩ := M.ex
  refine PMk.imp (pmk_oex (k := 1) M.T iC tI F (hr.mono hj) b .nil passL hg M.gC ha hdb he hpl) fun σ H Q q => ?_
  refine mo σ H _ _ (fun vs H1 h => ?_) q
  obtain ⟨v, rfl, h⟩ := h
  refine ⟨by show 1 ≤ 1000; decide, fun a ha => ⟨a, v, rfl, upd_same, fun dx hdx hne => ⟨rfl, dx, [(f, v)], upd_same, ?_, ?_, ?_⟩⟩⟩
  · rw [upd_ne hne]
    exact upd_same
  · rw [upd_ne hne] at hdx
    exact hdx
  · have hd1 : H1 dx = none := by rw [upd_ne hne] at hdx; exact hdx
    have e2 : upd (del (upd (upd (upd H1 a (exo a C none)) dx (exd dx [(f, v)])) a (exo a C (some dx))) a) dx (.xd [(f, v)]) = upd H1 dx (.xd [(f, v)]) := by
      funext b
      by_cases hb : b = dx
      · subst hb; rw [upd_same, upd_same]
      · rw [upd_ne hb, upd_ne hb]
        by_cases hba : b = a
        · subst hba; rw [del_same, ha]
        · rw [del_ne hba, upd_ne hba, upd_ne hb, upd_ne hba]
    rw [e2]
    exact h dx hd1
theorem mono_nil : Mono tNil := fun _ _ _ _ h q => h _ _ q
theorem mono_var {i : Nat} {tr : TA} (h : Mono tr) : Mono (tCons (tVar i) tr) := fun σ H Q Q' hQ ⟨v, e, q⟩ => ⟨v, e, h σ H _ _ (fun vs H1 z => hQ _ _ z) q⟩
/-- isinstance(e, c) of the caught error, which holds its own dict -/
def rIsX (K : Frag) (a : Addr) (cls : Value) (d : Option Addr) : List V → Hp → VK → Prop := fun xs H Q => ∃ (c : V) (D : Addr) (u : Value) (b : Bool) (dd : Addr) (fs : List (Str × V)), xs = [.ref a, c] ∧ cls = .ref D ∧ d = some dd ∧ H dd = some (.xd fs) ∧ ExcC K D ∧
  (∀ u', RelV c u' → u' = u) ∧ PySem.W.kitOne K (.ref D) u = some b ∧ Q (.bl b) H
theorem call_isX {X : Cx} {a : Addr} {oe : Obj} {cls : Value} {d : Option Addr} {pn : List (Addr × Obj)} (hz : Zc cls d oe) (hf : ∃ vs, oe.data = .fields vs) : CallR (X.suite a ((a, oe) :: pn)) (.builtin "isinstance") (rIsX X.K a cls d) := by
  intro pins s σ H xs us Q I r h
  obtain ⟨c, D, u, b, dd, fs, rfl, rfl, rfl, hdd, C, hcv, e, q⟩ := h
  cases r with
  | cons rx rr =>
    cases rr with
    | cons rt rr =>
      cases rr
      cases rx
      have ec := hcv _ rt
      subst ec
      obtain ⟨hget, _⟩ := I.pin (a, oe) (List.mem_append.mpr (.inl List.mem_cons_self))
      obtain ⟨vs, hv⟩ := hf
      have hx : ObjOk X.prog X.w H s.heap dd (.xd fs) := I.hok dd _ hdd
      obtain ⟨mA, hns, hr⟩ := hx
      obtain ⟨od, ho, hl⟩ := lookIn_ns hns
      have J : PySem.W.InstAt s.heap a oe D (some od) := ⟨hget, hz.1, by unfold PySem.W.notCls; rw [hv] <;> rfl, by rw [hz.2]; exact ho⟩
      have hcl : (PySem.W.clsIn X.K D).isSome = true := by
        obtain ⟨cd, hc, _⟩ := PySem.W.any_some C.hd
        rw [hc] <;> rfl
      exact PySem.W.kia_one (PySem.W.kitx_exc hcl C.hg C.hk C.hs C.ha C.hn C.ht C.hm) I.kIn J e (fun z => nomatch z) fun tk => ⟨.bl b, H, I.kept (t' := tk) fun _ _ z => z, rfl, q⟩
/-! ### is of bools among other values -/
def rIsA : R2 := fun x y H Q => ∃ b : Bool, y = .bl b ∧ (x = .non ∨ (∃ a, x = .bl a) ∨ (∃ i, x = .int i) ∨ (∃ z, x = .str z)) ∧ Q (.bl (decide (x = .bl b))) H
theorem op_isB {X : Cx} : OpR X (compareOp .Is) rIsA := by
  intro pins s σ H x y v u Q I rx ry h
  obtain ⟨b, rfl, hx, q⟩ := h
  cases (show u = Value.bool b from ry)
  rcases hx with rfl | ⟨a, rfl⟩ | ⟨i, rfl⟩ | ⟨z, rfl⟩
  · cases (show v = Value.none from rx)
    exact wpAny_is_other rfl (fun z => by cases z) ⟨.bl false, H, I, rfl, by simpa using q⟩
  · cases (show v = Value.bool a from rx)
    by_cases e : a = b
    · subst e
      exact wpAny_is_self rfl ⟨.bl true, H, I, rfl, by simpa using q⟩
    · exact wpAny_is_other rfl (fun z => e (Value.bool.inj z)) ⟨.bl false, H, I, rfl, by simpa [e] using q⟩
  · obtain ⟨t, rfl⟩ := rx
    exact wpAny_is_other rfl (fun z => by cases z) ⟨.bl false, H, I, rfl, by simpa using q⟩
  · obtain ⟨t, rfl⟩ := rx
    exact wpAny_is_other rfl (fun z => by cases z) ⟨.bl false, H, I, rfl, by simpa using q⟩
end Rb
/-! ### the rules with the written part named (for a comprehension's block) -/
namespace Rb
open PySem PySem.Spec PyProof.Rows L2
open PySem.W (Frag)
section
variable {X : Cx} {K : Frag} {a b e : Expr} {ta : TE} {pos : Pos}
theorem ix_listK (h : X.K = K := by rfl) : IxR X (rIxL K) := h ▸ ix_list
theorem ix_tupK (h : X.K = K := by rfl) : IxR X (rIxT K) := h ▸ ix_tup
theorem op_in_seqK (h : X.K = K := by rfl) : OpR X (compareOp .In) (rIn K false) := h ▸ op_in_seq
theorem op_notIn_seqK (h : X.K = K := by rfl) : OpR X (compareOp .NotIn) (rIn K true) := h ▸ op_notIn_seq
theorem sl_listK (h : X.K = K := by rfl) : SlR X (rSlL K) := h ▸ sl_list
/-- len of a list, a tuple, a text -/
def rLenK (K : Frag) : List V → Hp → VK → Prop := fun xs H Q => ∃ x n, xs = [x] ∧ LenV K x H n ∧ Q (.int n) H
theorem call_lenK (h : X.K = K := by rfl) : CallR X (.builtin "len") (rLenK K) := h ▸ call_len
def rListK (K : Frag) : List V → Hp → VK → Prop := fun xs H Q => ∃ p ys, xs = [.ref p] ∧ (SqL K H p ys ∨ SqT K H p ys) ∧ ∀ l, H l = none → Q (.ref l) (upd H l (.lst ys))
theorem call_listK (h : X.K = K := by rfl) : CallR X (.type "list") (rListK K) := h ▸ call_list_of
def rTupK (K : Frag) : List V → Hp → VK → Prop := fun xs H Q => ∃ p ys, xs = [.ref p] ∧ ((SqL K H p ys ∧ ∀ l, H l = none → Q (.ref l) (upd H l (.tup ys))) ∨ (SqT K H p ys ∧ Q (.ref p) H))
theorem call_tupleK (h : X.K = K := by rfl) : CallR X (.type "tuple") (rTupK K) := h ▸ call_tuple_of
theorem call_isiK2 (h : X.K = K := by rfl) : CallR X (.builtin "isinstance") (rIsi K) := h ▸ call_isi
theorem cr_allK (hc : X.calm = true) (h : X.K = K := by rfl) : CallR X (.builtin "all") (rAll K) := h ▸ cr_all hc
theorem cr_sumK (hc : X.calm = true) (h : X.K = K := by rfl) : CallR X (.builtin "sum") (rSum K) := h ▸ cr_sum hc
theorem pe_fldK {f : Str} (he : PE X e ta) (hb : attributeBase e f X.env (eval e X.env) = eval e X.env) (h : X.K = K := by rfl) : PE X (.Attribute e f pos) (tFld K ta f) := h ▸ pe_fld he hb
theorem pe_conK {f : Str} (he : PE X e ta) (hb : attributeBase e f X.env (eval e X.env) = eval e X.env) (h : X.K = K := by rfl) : PE X (.Attribute e f pos) (tCon K ta f) := h ▸ pe_con he hb
theorem pg_tupK {es : List Expr} {k : Nat} {t : TGs} {n : Nat} (hc : X.calm = true) (hh : PGs X es t)
    (hn : (assignEach es X.env).length = n := by rfl) (hst : (assignEach es X.env).findIdx? (·.1) = none := by rfl) (h : X.K = K := by rfl) : PG X (.Tuple es k pos) (gTup K n t) := h ▸ pg_tup hc hh hn hst
def tTruK (K : Frag) (ta : TE) : TT := fun σ H Q => ta σ H fun x H' => ∃ k, TruV K x H' k ∧ Q k H'
theorem pt_truthK (ha : PE X a ta) (he : ∀ whole, isTrue a X.env whole = (do let v ← whole; standAt a.pos; holding [v] (truthy v))) (h : X.K = K := by rfl) : PT X a (tTruK K ta) := h ▸ pt_truth ha he
theorem pe_bmK {o e : Expr} {es : List Expr} {to : TE} {t : TA} {name : Str} {apos cpos : Pos} {T id : String} {r : V → List V → Hp → VK → Prop} (pa : PlainAttrs T) (slot : Slot T name id) (hty : typeOf (.builtin id) = pure (.type "method_descriptor")) (hm : MtR X id r) (ho : PE X o to) (ha : PA X (e :: es) t)
    (hbase : attributeBase o name X.env (eval o X.env) = eval o X.env := by rfl)
    (hfew : ((backTo cpos (starEach (e :: es) X.env)).all (fun x => !x.1) && (backToKw cpos (keywordEach [] X.env)).all (fun x => x.1.isSome)
      && decide ((e :: es).length + ([] : List Keyword).length + (if ([] : List Keyword).isEmpty then 0 else 1) < 30)) = true := by rfl)
    (hline : (apos.endLine == cpos.line) = true := by rfl) (hs : starEach (e :: es) X.env = (false, eval e X.env) :: starEach es X.env := by rfl) (hplain : (backTo cpos (starEach es X.env)).any (·.1) = false := by rfl) (h : X.K = K := by rfl) :
    PE X (.Call (.Attribute o name apos) (e :: es) [] cpos) (tBM K T r to t) := h ▸ pe_bm pa slot hty hm ho ha hbase hfew hline hs hplain
theorem pi_listK {tg l : Expr} {tl : TE} (hl : PE X l tl) (h : X.K = K := by rfl) : PI X tg l (iList K tl) := h ▸ pi_list hl
theorem pi_tupK {tg l : Expr} {tl : TE} (hl : PE X l tl) (h : X.K = K := by rfl) : PI X tg l (iTup K tl) := h ▸ pi_tup hl
end
end Rb

namespace Rb
open PySem PySem.Spec PyProof.Rows L2
open PySem.W (Frag)
/-! ### evaluation that keeps what stands and leaves a value of which P holds -/
def EvP (te : TE) (σ : L2.St) (H : Hp) (P : V → Hp → Prop) : Prop := ∀ H1, Ex H H1 → ∀ Q : VK, (∀ v H2, Ex H1 H2 → P v H2 → Q v H2) → te σ H1 Q
theorem EvP.mono {te : TE} {σ : L2.St} {H H' : Hp} {P : V → Hp → Prop} (e : Ex H H') (h : EvP te σ H P) : EvP te σ H' P := fun H1 e1 => h H1 (e.trans e1)
theorem EvP.imp {te : TE} {σ : L2.St} {H : Hp} {P P' : V → Hp → Prop} (h : EvP te σ H P) (hi : ∀ v H1, Ex H H1 → P v H1 → P' v H1) : EvP te σ H P' :=
  fun H1 e1 Q k => h H1 e1 Q fun v H2 e2 p => k v H2 e2 (hi v H2 (e1.trans e2) p)
theorem EvP.of {te : TE} {σ : L2.St} {H : Hp} {v : V} (h : Evl.Ev te σ H v) : EvP te σ H (fun x _ => x = v) := fun H1 e1 Q k => h H1 e1 Q fun H2 e2 => k v H2 e2 rfl
theorem EvP.to {te : TE} {σ : L2.St} {H : Hp} {v : V} (h : EvP te σ H (fun x _ => x = v)) : Evl.Ev te σ H v := fun H1 e1 Q k => h H1 e1 Q fun x H2 e2 p => by subst p; exact k H2 e2
theorem EvP.run {te : TE} {σ : L2.St} {H : Hp} {P : V → Hp → Prop} {Q : VK} (h : EvP te σ H P) (k : ∀ v H2, Ex H H2 → P v H2 → Q v H2) : te σ H Q := h H (Evl.Ex.refl H) Q k
theorem Ev.run {te : TE} {σ : L2.St} {H : Hp} {v : V} {Q : VK} (h : Evl.Ev te σ H v) (k : ∀ H2, Ex H H2 → Q v H2) : te σ H Q := h H (Evl.Ex.refl H) Q k
theorem EvT.run {te : TT} {σ : L2.St} {H : Hp} {b : Bool} {Q : Bool → Hp → Prop} (h : Evl.EvT te σ H b) (k : ∀ H2, Ex H H2 → Q b H2) : te σ H Q := h H (Evl.Ex.refl H) Q k
/-! ### what a loop or a comprehension walks: n items, of the i-th of which Y i holds -/
structure JIs (J : It) (H : Hp) (n : Nat) (Y : Nat → V → Hp → Prop) : Prop where
  go : ∀ i H', Ex H H' → i < n → J.go i H'
  stop : ∀ H', Ex H H' → J.stop n H'
  yld : ∀ i H' x H'', Ex H H' → i < n → J.yld i H' x H'' → Ex H' H'' ∧ Y i x H''
def Src (wi : TI) (σ : L2.St) (H : Hp) (n : Nat) (Y : Nat → V → Hp → Prop) : Prop := ∀ H1, Ex H H1 → ∀ R : It → Hp → Prop, (∀ J H2, Ex H1 H2 → JIs J H2 n Y → R J H2) → wi σ H1 R
theorem src_list {K : Frag} {tl : TE} {σ : L2.St} {H : Hp} {a : Addr} {xs : List V} (h : Evl.Ev tl σ H (.ref a)) (hx : SqL K H a xs) : Src (iList K tl) σ H xs.length (fun i x _ => xs[i]? = some x) := fun H1 e1 R k =>
  h H1 e1 _ fun H2 e2 => ⟨a, rfl, ⟨xs, Evl.ex_l (e1.trans e2) hx⟩, k _ H2 e2
    ⟨fun i H' e hi => ⟨xs, xs[i], Evl.ex_l ((e1.trans e2).trans e) hx, List.getElem?_eq_getElem hi⟩, fun H' e => ⟨xs, Evl.ex_l ((e1.trans e2).trans e) hx, Nat.le_refl _⟩,
      fun i H' x H'' e hi ⟨e', q⟩ => ⟨by subst e'; exact Evl.Ex.refl _, q xs (Evl.ex_l ((e1.trans e2).trans e) hx)⟩⟩⟩
theorem src_tup {K : Frag} {tl : TE} {σ : L2.St} {H : Hp} {a : Addr} {xs : List V} (h : Evl.Ev tl σ H (.ref a)) (hx : SqT K H a xs) : Src (iTup K tl) σ H xs.length (fun i x _ => xs[i]? = some x) := fun H1 e1 R k =>
  h H1 e1 _ fun H2 e2 => ⟨a, rfl, ⟨xs, Evl.ex_t (e1.trans e2) hx⟩, k _ H2 e2
    ⟨fun i H' e hi => ⟨xs, xs[i], Evl.ex_t ((e1.trans e2).trans e) hx, List.getElem?_eq_getElem hi⟩, fun H' e => ⟨xs, Evl.ex_t ((e1.trans e2).trans e) hx, Nat.le_refl _⟩,
      fun i H' x H'' e hi ⟨e', q⟩ => ⟨by subst e'; exact Evl.Ex.refl _, q xs (Evl.ex_t ((e1.trans e2).trans e) hx)⟩⟩⟩
theorem src_r1 {ta : TA} {σ : L2.St} {H : Hp} {n : Int} (h : Evl.EvA ta σ H [.int n]) (hn : n ≤ 1000000) (h0 : -1000000 ≤ n) : Src (iRng1 ta) σ H n.toNat (fun i x _ => x = .int (i : Int)) := fun H1 e1 R k =>
  h H1 e1 _ fun H2 e2 => ⟨n, rfl, by omega, by omega, k _ H2 e2
    ⟨fun i H' e hi => hi, fun H' e => Nat.le_refl _, fun i H' x H'' e hi ⟨e', q⟩ => ⟨by subst e'; exact Evl.Ex.refl _, by rw [q, Int.zero_add]⟩⟩⟩
theorem src_str {te : TE} {σ : L2.St} {H : Hp} {z : Str} (h : Evl.Ev te σ H (.str z)) : Src (iStr te) σ H z.cps.toList.length (fun i x _ => ∃ c, z.cps.toList[i]? = some c ∧ x = .str ⟨#[c]⟩) := fun H1 e1 R k =>
  h H1 e1 _ fun H2 e2 => ⟨z, rfl, k _ H2 e2
    ⟨fun i H' e hi => by (show i < z.cps.size; simpa using hi), fun H' e => by (show z.cps.size ≤ _; simp), fun i H' x H'' e hi ⟨e', c, q1, q2⟩ => ⟨by subst e'; exact Evl.Ex.refl _, c, by rw [Array.getElem?_toList]; exact q1, q2⟩⟩⟩
/-! ### comprehensions -/
/-- all but lists is kept -/
def NL (H H' : Hp) : Prop := ∀ b o, (∀ xs, o ≠ .lst xs) → H b = some o → H' b = some o
theorem NL.ex {H H' : Hp} (e : Ex H H') : NL H H' := fun b o _ h => e b o h
theorem NL.upd {H : Hp} {D : Addr} {acc ys : List V} (h : H D = some (.lst acc)) : NL H (upd H D (.lst ys)) := fun b o n hb => by
  by_cases e : b = D
  · subst e; rw [h] at hb; exact absurd (Option.some.inj hb).symm (n _)
  · rw [upd_ne e]; exact hb
def EvG (g : TG) (x : V) (σ : L2.St) (H : Hp) (σ2 : L2.St) : Prop := ∀ H1, Ex H H1 → ∀ Q : L2.St → Hp → Prop, (∀ H2, Ex H1 H2 → Q σ2 H2) → g x σ H1 Q
theorem evg_name {j : Nat} {x : V} {σ : L2.St} {H : Hp} : EvG (gName j) x σ H (σ.set j (some x)) := fun H1 e Q k => k H1 (Evl.Ex.refl _)
def Idx (n : Nat) (f : Nat → Bool) : List Nat := (List.range n).filter f
theorem idx_succ (n : Nat) (f : Nat → Bool) : Idx (n + 1) f = if f n then Idx n f ++ [n] else Idx n f := by
  unfold Idx
  rw [List.range_succ, List.filter_append]
  cases h : f n <;> simp [h]
theorem idx_len (n : Nat) (f : Nat → Bool) : (Idx n f).length ≤ n := by
  unfold Idx
  exact Nat.le_trans (List.length_filter_le _ _) (by rw [List.length_range]; exact Nat.le_refl _)
theorem paired_snoc {α β : Type} {F : α → β → Prop} : ∀ {l1 : List α} {l2 : List β} {a : α} {b : β}, Paired F l1 l2 → F a b → Paired F (l1 ++ [a]) (l2 ++ [b])
  | [], [], _, _, _, h => .cons h .nil
  | _ :: _, _ :: _, _, _, .cons h1 h2, h => .cons h1 (paired_snoc h2 h)
theorem paired_len {α β : Type} {F : α → β → Prop} : ∀ {l1 : List α} {l2 : List β}, Paired F l1 l2 → l1.length = l2.length
  | [], [], _ => rfl
  | _ :: _, _ :: _, .cons _ h2 => by simp [paired_len h2]
theorem paired_imp {α β : Type} {F G : α → β → Prop} (hi : ∀ a b, F a b → G a b) : ∀ {l1 : List α} {l2 : List β}, Paired F l1 l2 → Paired G l1 l2
  | [], [], _ => .nil
  | _ :: _, _ :: _, .cons h1 h2 => .cons (hi _ _ h1) (paired_imp hi h2)
/-- what a comprehension gives: a new list of what E says of the chosen turns -/
def LcP (n : Nat) (f : Nat → Bool) (E : Nat → V → Hp → Prop) (H : Hp) : V → Hp → Prop := fun v H2 => ∃ D acc, v = .ref D ∧ H D = none ∧ H2 D = some (.lst acc) ∧ Paired (fun i y => E i y H2) (Idx n f) acc
theorem ev_lc {wi : TI} {g : TG} {tt : TT} {te : TE} {vs : List Nat} {σ : L2.St} {H : Hp} {n : Nat} {Y : Nat → V → Hp → Prop} (f : Nat → Bool) (E : Nat → V → Hp → Prop) (hs : Src wi σ H n Y) (hn : n ≤ 100000)
    (hE : ∀ i y H1 H2, NL H1 H2 → E i y H1 → E i y H2)
    (tg : ∀ i x H1, Ex H H1 → i < n → Y i x H1 → ∃ σ2, EvG g x (wipe σ vs) H1 σ2 ∧ wipe σ2 vs = wipe σ vs ∧ Evl.EvT tt σ2 H1 (f i) ∧ (f i = true → EvP te σ2 H1 (E i))) :
    EvP (tLc wi g tt te vs) σ H (fun v H2 => LcP n f E H v H2) := fun H0 e0 Q k =>
  hs H0 e0 _ fun J H1 e1 hJ D hD => by
    refine ⟨fun i m H' => m + i = n ∧ Ex H1 H' ∧ ∃ acc, H' D = some (.lst acc) ∧ Paired (fun i y => E i y H') (Idx i f) acc, ⟨n, by omega, Evl.Ex.new hD, [], upd_same, .nil⟩, fun i m H' ⟨hm, eH, acc, hacc, hp⟩ => ?_⟩
    by_cases hi : i < n
    · refine .inr ⟨hJ.go i H' eH hi, _, fun H'' p => ⟨n - (i + 1), by omega, p⟩, fun x H2 hy => ?_⟩
      obtain ⟨e2, yi⟩ := hJ.yld i H' x H2 eH hi hy
      have e02 : Ex H H2 := ((e0.trans e1).trans eH).trans e2
      obtain ⟨σ2, hg, hw, ht, he⟩ := tg i x H2 e02 hi yi
      refine hg H2 (Evl.Ex.refl _) _ fun H3 e3 => ⟨hw, ht H3 e3 _ fun H4 e4 => ?_⟩
      have hal : acc.length ≤ i := by rw [← paired_len hp]; exact idx_len i f
      cases hf : f i with
      | true =>
        rw [if_pos rfl]
        refine he hf H4 (e3.trans e4) _ fun y H5 e5 hy5 => ?_
        have e25 := ((e2.trans e3).trans e4).trans e5
        refine ⟨acc, e25 D _ hacc, by rw [sizeLine_eq]; omega, by omega, ?_, acc ++ [y], upd_same, ?_⟩
        · exact Evl.Ex.mut (eH.trans e25) hD
        · rw [idx_succ, hf, if_pos rfl]
          exact paired_imp (fun a b z => hE a b _ _ (NL.upd (e25 D _ hacc)) z) (paired_snoc (paired_imp (fun a b z => hE a b _ _ (NL.ex e25) z) hp) hy5)
      | false =>
        rw [if_neg Bool.false_ne_true]
        refine ⟨by omega, ((eH.trans e2).trans e3).trans e4, acc, e4 D _ (e3 D _ (e2 D _ hacc)), ?_⟩
        rw [idx_succ, hf, if_neg Bool.false_ne_true]
        exact paired_imp (fun a b z => hE a b _ _ (NL.ex ((e2.trans e3).trans e4)) z) hp
    · have hin : i = n := by omega
      subst hin
      exact .inl ⟨hJ.stop H' eH, k _ _ (e1.trans eH) ⟨D, acc, rfl, Evl.fresh_back (e0.trans e1) hD, hacc, hp⟩⟩
end Rb
namespace Rb
open PySem PySem.Spec PyProof.Rows L2
open PySem.W (Frag)
theorem idx_take {α β : Type} (l : List α) (p : α → Bool) (g : α → β) (f : Nat → Bool) (v : Nat → β) (hv : ∀ (i : Nat) (a : α), l[i]? = some a → f i = p a ∧ (p a = true → v i = g a)) :
    ∀ n, n ≤ l.length → (Idx n f).map v = ((l.take n).filter p).map g
  | 0, _ => rfl
  | n + 1, h => by
    have ih := idx_take l p g f v hv n (by omega)
    have hn : l[n]? = some l[n] := List.getElem?_eq_getElem (by omega)
    obtain ⟨h1, h2⟩ := hv n l[n] hn
    rw [idx_succ, List.take_succ, hn, h1]
    cases hp : p l[n] with
    | true =>
      rw [if_pos rfl, List.map_append, ih, List.filter_append, List.map_append]
      have e2 : (some l[n]).toList = [l[n]] := rfl
      rw [e2, List.filter_cons, hp, if_pos rfl, List.filter_nil, List.map_cons, List.map_nil, List.map_cons, List.map_nil, h2 hp]
    | false =>
      rw [if_neg Bool.false_ne_true, ih, List.filter_append]
      have e2 : (some l[n]).toList = [l[n]] := rfl
      rw [e2, List.filter_cons, hp, if_neg Bool.false_ne_true, List.filter_nil, List.append_nil]
theorem idx_map {α β : Type} (l : List α) (p : α → Bool) (g : α → β) (f : Nat → Bool) (v : Nat → β) (hv : ∀ (i : Nat) (a : α), l[i]? = some a → f i = p a ∧ (p a = true → v i = g a)) : (Idx l.length f).map v = (l.filter p).map g := by
  rw [idx_take l p g f v hv _ (Nat.le_refl _), List.take_length]
theorem idx_all (n : Nat) : Idx n (fun _ => true) = List.range n := by
  unfold Idx
  exact List.filter_eq_self.mpr fun _ _ => rfl
theorem paired_val {v : Nat → V} : ∀ {l : List Nat} {acc : List V}, Paired (fun i y => y = v i) l acc → acc = l.map v
  | [], [], _ => rfl
  | _ :: _, _ :: _, .cons h1 h2 => by rw [h1, paired_val h2]; rfl
/-- .. of values -/
theorem ev_lcV {wi : TI} {g : TG} {tt : TT} {te : TE} {vs : List Nat} {σ : L2.St} {H : Hp} {n : Nat} {Y : Nat → V → Hp → Prop} (f : Nat → Bool) (v : Nat → V) (hs : Src wi σ H n Y) (hn : n ≤ 100000)
    (tg : ∀ i x H1, Ex H H1 → i < n → Y i x H1 → ∃ σ2, EvG g x (wipe σ vs) H1 σ2 ∧ wipe σ2 vs = wipe σ vs ∧ Evl.EvT tt σ2 H1 (f i) ∧ (f i = true → Evl.Ev te σ2 H1 (v i))) :
    EvP (tLc wi g tt te vs) σ H (fun x H2 => ∃ D, x = .ref D ∧ H D = none ∧ H2 D = some (.lst ((Idx n f).map v))) :=
  EvP.imp (ev_lc f (fun i y _ => y = v i) hs hn (fun _ _ _ _ _ h => h) fun i x H1 e hi y => by
    obtain ⟨σ2, h1, h2, h3, h4⟩ := tg i x H1 e hi y
    exact ⟨σ2, h1, h2, h3, fun hf => EvP.of (h4 hf)⟩) fun x H1 e ⟨D, acc, h1, h2, h3, h4⟩ => ⟨D, h1, h2, by rw [h3, paired_val h4]⟩
/-- over a list of texts (ints, ..): l.map inj, all kept and mapped, or filtered -/
theorem ev_lcL {α : Type} {K : Frag} {tl : TE} {tt : TT} {te : TE} {j : Nat} {vs : List Nat} {σ : L2.St} {H : Hp} {a : Addr} (l : List α) (inj : α → V) (p : α → Bool) (g : α → V) (h : Evl.Ev tl σ H (.ref a)) (hx : SqL K H a (l.map inj)) (hn : l.length ≤ 100000)
    (hw : ∀ x, wipe ((wipe σ vs).set j (some x)) vs = wipe σ vs) (ht : ∀ x ∈ l, ∀ H1, Ex H H1 → Evl.EvT tt ((wipe σ vs).set j (some (inj x))) H1 (p x)) (he : ∀ x ∈ l, p x = true → ∀ H1, Ex H H1 → Evl.Ev te ((wipe σ vs).set j (some (inj x))) H1 (g x)) :
    EvP (tLc (iList K tl) (gName j) tt te vs) σ H (fun x H2 => ∃ D, x = .ref D ∧ H D = none ∧ H2 D = some (.lst ((l.filter p).map g))) := by
  have hf : ∀ (i : Nat) (a : α), l[i]? = some a → (fun i => (l[i]?.map p).getD false) i = p a ∧ (p a = true → (fun i => (l[i]?.map g).getD .non) i = g a) := fun i a e => by simp [e]
  have q := ev_lcV (tt := tt) (te := te) (g := gName j) (vs := vs) (fun i => (l[i]?.map p).getD false) (fun i => (l[i]?.map g).getD .non) (src_list h hx) (by rw [List.length_map]; exact hn) fun i x H1 e hi y => by
    rw [List.getElem?_map] at y
    cases hl : l[i]? with
    | none => rw [hl] at y; cases y
    | some a =>
      rw [hl] at y
      have y2 : inj a = x := Option.some.inj y
      subst y2
      have hm : a ∈ l := List.mem_of_getElem? hl
      exact ⟨_, evg_name, hw _, ht a hm H1 e, fun hp => he a hm hp H1 e⟩
  rw [List.length_map, idx_map l p g _ _ hf] at q
  exact q
end Rb
namespace Rb
open PySem PySem.Spec PyProof.Rows L2
open PySem.W (Frag)
theorem evp_cb1 {r : List V → Hp → VK → Prop} {te : TE} {σ : L2.St} {H : Hp} {P P' : V → Hp → Prop} (h : EvP te σ H P) (hr : ∀ v H1, Ex H H1 → P v H1 → ∀ Q : VK, (∀ x H2, Ex H1 H2 → P' x H2 → Q x H2) → r [v] H1 Q) : EvP (tCB r (tCons te tNil)) σ H P' :=
  fun H1 e1 Q k => h H1 e1 _ fun v H2 e2 p => hr v H2 (e1.trans e2) p Q fun x H3 e3 p3 => k x H3 (e2.trans e3) p3
theorem ev_all {K : Frag} {te : TE} {σ : L2.St} {H : Hp} (bs : List Bool) (h : EvP te σ H (fun x H2 => ∃ D, x = .ref D ∧ H D = none ∧ H2 D = some (.lst (bs.map V.bl)))) : Evl.Ev (tCB (rAll K) (tCons te tNil)) σ H (.bl (bs.all id)) :=
  (evp_cb1 h fun v H1 e ⟨D, h1, _, h3⟩ Q k => ⟨D, bs, by rw [h1], SqL.of h3, k _ _ (Evl.Ex.refl _) rfl⟩).to
theorem ev_sum {K : Frag} {te : TE} {σ : L2.St} {H : Hp} (ns : List Int) (h : EvP te σ H (fun x H2 => ∃ D, x = .ref D ∧ H D = none ∧ H2 D = some (.lst (ns.map V.int)))) : Evl.Ev (tCB (rSum K) (tCons te tNil)) σ H (.int ns.sum) :=
  (evp_cb1 h fun v H1 e ⟨D, h1, _, h3⟩ Q k => ⟨D, ns, by rw [h1], SqL.of h3, k _ _ (Evl.Ex.refl _) rfl⟩).to
theorem et_yes {σ : L2.St} {H : Hp} : Evl.EvT tYes σ H true := fun _ _ _ k => k _ (Evl.Ex.refl _)
end Rb
namespace Rb
open PySem PySem.Spec PyProof.Rows L2
theorem rg_map {α β : Type} (l : List α) (f : α → β) (d : β) : (List.range l.length).map (fun i => (l[i]?.map f).getD d) = l.map f := by
  apply List.ext_getElem?
  intro i
  rw [List.getElem?_map, List.getElem?_map]
  by_cases hi : i < l.length
  · rw [List.getElem?_range hi, Option.map_some, List.getElem?_eq_getElem hi]
    rfl
  · rw [List.getElem?_eq_none (by rw [List.length_range]; omega), List.getElem?_eq_none (by omega)]
    rfl
end Rb
namespace Rb
open PySem PySem.Spec PyProof.Rows L2
/-! ### all but p stands -/
def Fr (p : Addr) (H H' : Hp) : Prop := ∀ b o, b ≠ p → H b = some o → H' b = some o
theorem Fr.refl (p : Addr) (H : Hp) : Fr p H H := fun _ _ _ h => h
theorem Fr.trans {p : Addr} {H H1 H2 : Hp} (a : Fr p H H1) (b : Fr p H1 H2) : Fr p H H2 := fun x o n h => b x o n (a x o n h)
theorem Fr.ex {p : Addr} {H H' : Hp} (e : Ex H H') : Fr p H H' := fun b o _ h => e b o h
theorem Fr.upd {p : Addr} {H : Hp} {o : HO} : Fr p H (L2.upd H p o) := fun b u n h => by rw [upd_ne n]; exact h
theorem Fr.new {p q : Addr} {H H' : Hp} {o : HO} (f : Fr p H H') (h : H q = none) : Fr p H (L2.upd H' q o) := fun b u n hb => by
  rw [upd_ne (fun e => by rw [e, h] at hb; cases hb)]
  exact f b u n hb
theorem Fr.free {p q : Addr} {H H' : Hp} {u : HO} (f : Fr p H H') (hp : H' p = some u) (h : H' q = none) : H q = none ∧ q ≠ p := by
  have hq : q ≠ p := fun e => by rw [e, hp] at h; cases h
  refine ⟨?_, hq⟩
  cases e : H q with
  | none => rfl
  | some o => rw [f q o hq e] at h; cases h
theorem nodup_of_inj {α : Type} {l : List α} (F : Nat → α → Prop) (hF : ∀ (i : Nat) (a : α), l[i]? = some a → F i a) (inj : ∀ (i j : Nat) (a : α), i < l.length → j < l.length → F i a → F j a → i = j) : l.Nodup := by
  refine List.pairwise_iff_getElem.mpr fun i j hi hj hij e => ?_
  have e1 : l[i]? = some l[i] := List.getElem?_eq_getElem hi
  have e2 : l[j]? = some l[i] := by rw [e]; exact List.getElem?_eq_getElem hj
  have := inj i j l[i] hi hj (hF i _ e1) (hF j _ e2)
  omega
theorem snoc_get {α : Type} {l : List α} {a b : α} {i : Nat} (h : (l ++ [a])[i]? = some b) : (i < l.length ∧ l[i]? = some b) ∨ (i = l.length ∧ b = a) := by
  by_cases hi : i < l.length
  · rw [List.getElem?_append_left hi] at h
    exact .inl ⟨hi, h⟩
  · rw [List.getElem?_append_right (by omega)] at h
    have hi2 : i - l.length = 0 := by
      apply Classical.byContradiction
      intro hn
      rw [List.getElem?_eq_none (by simp; omega)] at h
      cases h
    rw [hi2] at h
    exact .inr ⟨by omega, (Option.some.inj h).symm⟩
end Rb
namespace Rb
open PySem PySem.Spec PyProof.Rows L2
section
variable {te : TE} {σ : L2.St} {H : Hp} {P : V → Hp → Prop} {D : Ends} {i : Nat} {rest : TS}
theorem q_asgP (h : EvP te σ H P) (k : ∀ v H1, Ex H H1 → P v H1 → rest D (σ.set i (some v)) H1) : tSeq (tAsg te (gName i)) rest D σ H := h.run k
theorem s_asgP (h : EvP te σ H P) (k : ∀ v H1, Ex H H1 → P v H1 → D.nx (σ.set i (some v)) H1) : tAsg te (gName i) D σ H := h.run k
theorem s_retP (h : EvP te σ H P) (k : ∀ v H1, Ex H H1 → P v H1 → D.rt v H1) : tRet te D σ H := h.run k
end
end Rb

namespace Rk
open PySem PySem.Spec PyProof.Rows L2 He Rb
def top (i : Nat) : Stmt := PySem.Challenge.pw_ridesonce_k00_a_town_holds_its_lists.main.body.getD i (.Pass ⟨0, 0, 0, 0⟩)
abbrev s_is_name : Stmt := top 16
abbrev s_check_new_name : Stmt := top 17
abbrev s_check_number : Stmt := top 18
abbrev s_check_station : Stmt := top 19
abbrev s_check_ride : Stmt := top 20
abbrev s_check_count : Stmt := top 21
abbrev s__law_cell : Stmt := top 24
abbrev s__law_pool : Stmt := top 25
abbrev s__law_take : Stmt := top 26
abbrev s__law_names : Stmt := top 27
abbrev s__law_round : Stmt := top 28
abbrev s__law_rides : Stmt := top 29
abbrev s__law_free : Stmt := top 30
abbrev s__law_same : Stmt := top 31
abbrev s__law_fresh : Stmt := top 32
abbrev s__law_any_names : Stmt := top 33
abbrev s__law_lists : Stmt := top 34
abbrev s__law_station_is : Stmt := top 35
abbrev s__law_ride_is : Stmt := top 36
abbrev s__law_holds : Stmt := top 37
abbrev s_law : Stmt := top 38
abbrev s_BadName___init__ : Stmt := inClass (top 3) 0
abbrev s_Duplicate___init__ : Stmt := inClass (top 4) 0
abbrev s_UnknownStation___init__ : Stmt := inClass (top 5) 0
abbrev s_UnknownRide___init__ : Stmt := inClass (top 6) 0
abbrev s_SameEnds___init__ : Stmt := inClass (top 7) 0
abbrev s_NotKept___init__ : Stmt := inClass (top 8) 0
abbrev s_BadNumber___init__ : Stmt := inClass (top 9) 0
abbrev s_TooLarge___init__ : Stmt := inClass (top 10) 0
abbrev s_Town___init__ : Stmt := inClass (top 22) 3
abbrev s_Town_empty : Stmt := inClass (top 22) 4
abbrev s_Town__station : Stmt := inClass (top 22) 5
abbrev s_Town__check_rides : Stmt := inClass (top 22) 6
abbrev s_Town_docks : Stmt := inClass (top 22) 7
abbrev s_Town_bikes : Stmt := inClass (top 22) 8
abbrev s_Town_free : Stmt := inClass (top 22) 9
abbrev s_Town_ride : Stmt := inClass (top 22) 10
abbrev s_Town_position : Stmt := inClass (top 22) 11
abbrev s_Town_passes : Stmt := inClass (top 22) 12
abbrev s_Town_without : Stmt := inClass (top 22) 14
def fn : List He5.DefA := [
  ⟨fun K => ga K "is_name", "is_name", "is_name", defArgs s_is_name, defBody s_is_name, defScope s_is_name, [], []⟩,
  ⟨fun K => ga K "check_new_name", "check_new_name", "check_new_name", defArgs s_check_new_name, defBody s_check_new_name, defScope s_check_new_name, [], []⟩,
  ⟨fun K => ga K "check_number", "check_number", "check_number", defArgs s_check_number, defBody s_check_number, defScope s_check_number, [], []⟩,
  ⟨fun K => ga K "check_station", "check_station", "check_station", defArgs s_check_station, defBody s_check_station, defScope s_check_station, [], []⟩,
  ⟨fun K => ga K "check_ride", "check_ride", "check_ride", defArgs s_check_ride, defBody s_check_ride, defScope s_check_ride, [], []⟩,
  ⟨fun K => ga K "check_count", "check_count", "check_count", defArgs s_check_count, defBody s_check_count, defScope s_check_count, [], []⟩,
  ⟨fun K => ga K "_law_cell", "_law_cell", "_law_cell", defArgs s__law_cell, defBody s__law_cell, defScope s__law_cell, [], []⟩,
  ⟨fun K => ga K "_law_pool", "_law_pool", "_law_pool", defArgs s__law_pool, defBody s__law_pool, defScope s__law_pool, [], []⟩,
  ⟨fun K => ga K "_law_take", "_law_take", "_law_take", defArgs s__law_take, defBody s__law_take, defScope s__law_take, [], []⟩,
  ⟨fun K => ga K "_law_names", "_law_names", "_law_names", defArgs s__law_names, defBody s__law_names, defScope s__law_names, [], []⟩,
  ⟨fun K => ga K "_law_round", "_law_round", "_law_round", defArgs s__law_round, defBody s__law_round, defScope s__law_round, [], []⟩,
  ⟨fun K => ga K "_law_rides", "_law_rides", "_law_rides", defArgs s__law_rides, defBody s__law_rides, defScope s__law_rides, [], []⟩,
  ⟨fun K => ga K "_law_free", "_law_free", "_law_free", defArgs s__law_free, defBody s__law_free, defScope s__law_free, [], []⟩,
  ⟨fun K => ga K "_law_same", "_law_same", "_law_same", defArgs s__law_same, defBody s__law_same, defScope s__law_same, [], []⟩,
  ⟨fun K => ga K "_law_fresh", "_law_fresh", "_law_fresh", defArgs s__law_fresh, defBody s__law_fresh, defScope s__law_fresh, [], []⟩,
  ⟨fun K => ga K "_law_any_names", "_law_any_names", "_law_any_names", defArgs s__law_any_names, defBody s__law_any_names, defScope s__law_any_names, [], []⟩,
  ⟨fun K => ga K "_law_lists", "_law_lists", "_law_lists", defArgs s__law_lists, defBody s__law_lists, defScope s__law_lists, [], []⟩,
  ⟨fun K => ga K "_law_station_is", "_law_station_is", "_law_station_is", defArgs s__law_station_is, defBody s__law_station_is, defScope s__law_station_is, [], []⟩,
  ⟨fun K => ga K "_law_ride_is", "_law_ride_is", "_law_ride_is", defArgs s__law_ride_is, defBody s__law_ride_is, defScope s__law_ride_is, [], []⟩,
  ⟨fun K => ga K "_law_holds", "_law_holds", "_law_holds", defArgs s__law_holds, defBody s__law_holds, defScope s__law_holds, [], []⟩,
  ⟨fun K => ga K "law", "law", "law", defArgs s_law, defBody s_law, defScope s_law, [], []⟩,
  ⟨fun K => ma K (ga K "BadName") "__init__", "__init__", "BadName.__init__", defArgs s_BadName___init__, defBody s_BadName___init__, defScope s_BadName___init__, [], []⟩,
  ⟨fun K => ma K (ga K "Duplicate") "__init__", "__init__", "Duplicate.__init__", defArgs s_Duplicate___init__, defBody s_Duplicate___init__, defScope s_Duplicate___init__, [], []⟩,
  ⟨fun K => ma K (ga K "UnknownStation") "__init__", "__init__", "UnknownStation.__init__", defArgs s_UnknownStation___init__, defBody s_UnknownStation___init__, defScope s_UnknownStation___init__, [], []⟩,
  ⟨fun K => ma K (ga K "UnknownRide") "__init__", "__init__", "UnknownRide.__init__", defArgs s_UnknownRide___init__, defBody s_UnknownRide___init__, defScope s_UnknownRide___init__, [], []⟩,
  ⟨fun K => ma K (ga K "SameEnds") "__init__", "__init__", "SameEnds.__init__", defArgs s_SameEnds___init__, defBody s_SameEnds___init__, defScope s_SameEnds___init__, [], []⟩,
  ⟨fun K => ma K (ga K "NotKept") "__init__", "__init__", "NotKept.__init__", defArgs s_NotKept___init__, defBody s_NotKept___init__, defScope s_NotKept___init__, [], []⟩,
  ⟨fun K => ma K (ga K "BadNumber") "__init__", "__init__", "BadNumber.__init__", defArgs s_BadNumber___init__, defBody s_BadNumber___init__, defScope s_BadNumber___init__, [], []⟩,
  ⟨fun K => ma K (ga K "TooLarge") "__init__", "__init__", "TooLarge.__init__", defArgs s_TooLarge___init__, defBody s_TooLarge___init__, defScope s_TooLarge___init__, [], []⟩,
  ⟨fun K => ma K (ga K "Town") "__init__", "__init__", "Town.__init__", defArgs s_Town___init__, defBody s_Town___init__, defScope s_Town___init__, [], []⟩,
  ⟨fun K => He5.wf K (ga K "Town") "classmethod" "empty", "empty", "Town.empty", defArgs s_Town_empty, defBody s_Town_empty, defScope s_Town_empty, [], []⟩,
  ⟨fun K => ma K (ga K "Town") "_station", "_station", "Town._station", defArgs s_Town__station, defBody s_Town__station, defScope s_Town__station, [], []⟩,
  ⟨fun K => ma K (ga K "Town") "_check_rides", "_check_rides", "Town._check_rides", defArgs s_Town__check_rides, defBody s_Town__check_rides, defScope s_Town__check_rides, [], []⟩,
  ⟨fun K => ma K (ga K "Town") "docks", "docks", "Town.docks", defArgs s_Town_docks, defBody s_Town_docks, defScope s_Town_docks, [], []⟩,
  ⟨fun K => ma K (ga K "Town") "bikes", "bikes", "Town.bikes", defArgs s_Town_bikes, defBody s_Town_bikes, defScope s_Town_bikes, [], []⟩,
  ⟨fun K => ma K (ga K "Town") "free", "free", "Town.free", defArgs s_Town_free, defBody s_Town_free, defScope s_Town_free, [], []⟩,
  ⟨fun K => ma K (ga K "Town") "ride", "ride", "Town.ride", defArgs s_Town_ride, defBody s_Town_ride, defScope s_Town_ride, [], []⟩,
  ⟨fun K => ma K (ga K "Town") "position", "position", "Town.position", defArgs s_Town_position, defBody s_Town_position, defScope s_Town_position, [], []⟩,
  ⟨fun K => ma K (ga K "Town") "passes", "passes", "Town.passes", defArgs s_Town_passes, defBody s_Town_passes, defScope s_Town_passes, [], []⟩,
  ⟨fun K => ma K (ga K "Town") "without", "without", "Town.without", defArgs s_Town_without, defBody s_Town_without, defScope s_Town_without, [], []⟩]
def fa : List Fa := [
  .glo "is_name",
  .glo "check_new_name",
  .glo "check_number",
  .glo "check_station",
  .glo "check_ride",
  .glo "check_count",
  .glo "_law_cell",
  .glo "_law_pool",
  .glo "_law_take",
  .glo "_law_names",
  .glo "_law_round",
  .glo "_law_rides",
  .glo "_law_free",
  .glo "_law_same",
  .glo "_law_fresh",
  .glo "_law_any_names",
  .glo "_law_lists",
  .glo "_law_station_is",
  .glo "_law_ride_is",
  .glo "_law_holds",
  .glo "law",
  .glo "RidesError",
  .glo "BadName",
  .glo "Duplicate",
  .glo "UnknownStation",
  .glo "UnknownRide",
  .glo "SameEnds",
  .glo "NotKept",
  .glo "BadNumber",
  .glo "TooLarge",
  .glo "Town",
  .str "STREET" "street",
  .str "LETTERS" "abcdefghijklmnopqrstuvwxyz",
  .str "LETTERS_AND_DIGITS" "abcdefghijklmnopqrstuvwxyz0123456789",
  .int "LONGEST_NAME" 8,
  .free "ValueError",
  .free "abs",
  .free "all",
  .free "bool",
  .free "dict",
  .free "int",
  .free "isinstance",
  .free "len",
  .free "list",
  .free "min",
  .free "range",
  .free "str",
  .free "sum",
  .free "tuple",
  .keep "RidesError",
  .keep "BadName",
  .noat "BadName" "name",
  .keep "Duplicate",
  .noat "Duplicate" "name",
  .keep "UnknownStation",
  .noat "UnknownStation" "name",
  .keep "UnknownRide",
  .noat "UnknownRide" "name",
  .keep "SameEnds",
  .noat "SameEnds" "name",
  .keep "NotKept",
  .noat "NotKept" "name",
  .keep "BadNumber",
  .noat "BadNumber" "number",
  .keep "TooLarge",
  .noat "TooLarge" "count",
  .cls "Town",
  .keep "Town",
  .mkr "Town",
  .meth "Town" "_station",
  .meth "Town" "_check_rides",
  .meth "Town" "docks",
  .meth "Town" "bikes",
  .meth "Town" "free",
  .meth "Town" "ride",
  .meth "Town" "position",
  .meth "Town" "passes",
  .meth "Town" "without",
  .noat "Town" "_positions",
  .noat "Town" "_stations",
  .noat "Town" "rides",
  .noat "Town" "stations"]
def ex : List (PySem.W.Frag → Bool) := [
  fun K => excB K (ga K "RidesError"),
  fun K => oexB K (ga K "BadName"),
  fun K => eqO (PySem.W.findIn K (.ref (ga K "BadName")) "__init__") (some (some (.ref (ma K (ga K "BadName") "__init__")))) && decide (PySem.W.typeIn K (.ref (ma K (ga K "BadName") "__init__")) = some (.type "function")),
  fun K => excB K (ga K "BadName"),
  fun K => oexB K (ga K "Duplicate"),
  fun K => eqO (PySem.W.findIn K (.ref (ga K "Duplicate")) "__init__") (some (some (.ref (ma K (ga K "Duplicate") "__init__")))) && decide (PySem.W.typeIn K (.ref (ma K (ga K "Duplicate") "__init__")) = some (.type "function")),
  fun K => excB K (ga K "Duplicate"),
  fun K => oexB K (ga K "UnknownStation"),
  fun K => eqO (PySem.W.findIn K (.ref (ga K "UnknownStation")) "__init__") (some (some (.ref (ma K (ga K "UnknownStation") "__init__")))) && decide (PySem.W.typeIn K (.ref (ma K (ga K "UnknownStation") "__init__")) = some (.type "function")),
  fun K => excB K (ga K "UnknownStation"),
  fun K => oexB K (ga K "UnknownRide"),
  fun K => eqO (PySem.W.findIn K (.ref (ga K "UnknownRide")) "__init__") (some (some (.ref (ma K (ga K "UnknownRide") "__init__")))) && decide (PySem.W.typeIn K (.ref (ma K (ga K "UnknownRide") "__init__")) = some (.type "function")),
  fun K => excB K (ga K "UnknownRide"),
  fun K => oexB K (ga K "SameEnds"),
  fun K => eqO (PySem.W.findIn K (.ref (ga K "SameEnds")) "__init__") (some (some (.ref (ma K (ga K "SameEnds") "__init__")))) && decide (PySem.W.typeIn K (.ref (ma K (ga K "SameEnds") "__init__")) = some (.type "function")),
  fun K => excB K (ga K "SameEnds"),
  fun K => oexB K (ga K "NotKept"),
  fun K => eqO (PySem.W.findIn K (.ref (ga K "NotKept")) "__init__") (some (some (.ref (ma K (ga K "NotKept") "__init__")))) && decide (PySem.W.typeIn K (.ref (ma K (ga K "NotKept") "__init__")) = some (.type "function")),
  fun K => excB K (ga K "NotKept"),
  fun K => oexB K (ga K "BadNumber"),
  fun K => eqO (PySem.W.findIn K (.ref (ga K "BadNumber")) "__init__") (some (some (.ref (ma K (ga K "BadNumber") "__init__")))) && decide (PySem.W.typeIn K (.ref (ma K (ga K "BadNumber") "__init__")) = some (.type "function")),
  fun K => excB K (ga K "BadNumber"),
  fun K => oexB K (ga K "TooLarge"),
  fun K => eqO (PySem.W.findIn K (.ref (ga K "TooLarge")) "__init__") (some (some (.ref (ma K (ga K "TooLarge") "__init__")))) && decide (PySem.W.typeIn K (.ref (ma K (ga K "TooLarge") "__init__")) = some (.type "function")),
  fun K => excB K (ga K "TooLarge"),
  fun K => He5.wrapB K (ga K "Town") "classmethod" "classmethod.__get__" "empty" && PySem.W.fnIn K (He5.wf K (ga K "Town") "classmethod" "empty"),
  fun K => conB K (ga K "Town") "MOST_STATIONS" 12,
  fun K => cvalB K (ga K "Town") "MOST_STATIONS" 12,
  fun K => conB K (ga K "Town") "MOST_RIDES" 24,
  fun K => cvalB K (ga K "Town") "MOST_RIDES" 24,
  fun K => conB K (ga K "Town") "MOST_DOCKS" 999999,
  fun K => cvalB K (ga K "Town") "MOST_DOCKS" 999999,
  fun K => creadB K (ga K "Town"),
  fun K => decide (PySem.W.exmOne K (.ref (ga K "BadName")) (.ref (ga K "RidesError")) = some true),
  fun K => decide (PySem.W.kitOne K (.ref (ga K "BadName")) (.ref (ga K "RidesError")) = some true),
  fun K => decide (PySem.W.exmOne K (.ref (ga K "BadName")) (.ref (ga K "UnknownRide")) = some false),
  fun K => decide (PySem.W.kitOne K (.ref (ga K "BadName")) (.ref (ga K "UnknownRide")) = some false),
  fun K => decide (PySem.W.exmOne K (.ref (ga K "BadName")) (.ref (ga K "UnknownStation")) = some false),
  fun K => decide (PySem.W.kitOne K (.ref (ga K "BadName")) (.ref (ga K "UnknownStation")) = some false),
  fun K => decide (PySem.W.exmOne K (.ref (ga K "Duplicate")) (.ref (ga K "RidesError")) = some true),
  fun K => decide (PySem.W.kitOne K (.ref (ga K "Duplicate")) (.ref (ga K "RidesError")) = some true),
  fun K => decide (PySem.W.exmOne K (.ref (ga K "Duplicate")) (.ref (ga K "UnknownRide")) = some false),
  fun K => decide (PySem.W.kitOne K (.ref (ga K "Duplicate")) (.ref (ga K "UnknownRide")) = some false),
  fun K => decide (PySem.W.exmOne K (.ref (ga K "Duplicate")) (.ref (ga K "UnknownStation")) = some false),
  fun K => decide (PySem.W.kitOne K (.ref (ga K "Duplicate")) (.ref (ga K "UnknownStation")) = some false),
  fun K => decide (PySem.W.exmOne K (.ref (ga K "UnknownStation")) (.ref (ga K "RidesError")) = some true),
  fun K => decide (PySem.W.kitOne K (.ref (ga K "UnknownStation")) (.ref (ga K "RidesError")) = some true),
  fun K => decide (PySem.W.exmOne K (.ref (ga K "UnknownStation")) (.ref (ga K "UnknownRide")) = some false),
  fun K => decide (PySem.W.kitOne K (.ref (ga K "UnknownStation")) (.ref (ga K "UnknownRide")) = some false),
  fun K => decide (PySem.W.exmOne K (.ref (ga K "UnknownStation")) (.ref (ga K "UnknownStation")) = some true),
  fun K => decide (PySem.W.kitOne K (.ref (ga K "UnknownStation")) (.ref (ga K "UnknownStation")) = some true),
  fun K => decide (PySem.W.exmOne K (.ref (ga K "UnknownRide")) (.ref (ga K "RidesError")) = some true),
  fun K => decide (PySem.W.kitOne K (.ref (ga K "UnknownRide")) (.ref (ga K "RidesError")) = some true),
  fun K => decide (PySem.W.exmOne K (.ref (ga K "UnknownRide")) (.ref (ga K "UnknownRide")) = some true),
  fun K => decide (PySem.W.kitOne K (.ref (ga K "UnknownRide")) (.ref (ga K "UnknownRide")) = some true),
  fun K => decide (PySem.W.exmOne K (.ref (ga K "UnknownRide")) (.ref (ga K "UnknownStation")) = some false),
  fun K => decide (PySem.W.kitOne K (.ref (ga K "UnknownRide")) (.ref (ga K "UnknownStation")) = some false),
  fun K => decide (PySem.W.exmOne K (.ref (ga K "SameEnds")) (.ref (ga K "RidesError")) = some true),
  fun K => decide (PySem.W.kitOne K (.ref (ga K "SameEnds")) (.ref (ga K "RidesError")) = some true),
  fun K => decide (PySem.W.exmOne K (.ref (ga K "SameEnds")) (.ref (ga K "UnknownRide")) = some false),
  fun K => decide (PySem.W.kitOne K (.ref (ga K "SameEnds")) (.ref (ga K "UnknownRide")) = some false),
  fun K => decide (PySem.W.exmOne K (.ref (ga K "SameEnds")) (.ref (ga K "UnknownStation")) = some false),
  fun K => decide (PySem.W.kitOne K (.ref (ga K "SameEnds")) (.ref (ga K "UnknownStation")) = some false),
  fun K => decide (PySem.W.exmOne K (.ref (ga K "NotKept")) (.ref (ga K "RidesError")) = some true),
  fun K => decide (PySem.W.kitOne K (.ref (ga K "NotKept")) (.ref (ga K "RidesError")) = some true),
  fun K => decide (PySem.W.exmOne K (.ref (ga K "NotKept")) (.ref (ga K "UnknownRide")) = some false),
  fun K => decide (PySem.W.kitOne K (.ref (ga K "NotKept")) (.ref (ga K "UnknownRide")) = some false),
  fun K => decide (PySem.W.exmOne K (.ref (ga K "NotKept")) (.ref (ga K "UnknownStation")) = some false),
  fun K => decide (PySem.W.kitOne K (.ref (ga K "NotKept")) (.ref (ga K "UnknownStation")) = some false),
  fun K => decide (PySem.W.exmOne K (.ref (ga K "BadNumber")) (.ref (ga K "RidesError")) = some true),
  fun K => decide (PySem.W.kitOne K (.ref (ga K "BadNumber")) (.ref (ga K "RidesError")) = some true),
  fun K => decide (PySem.W.exmOne K (.ref (ga K "BadNumber")) (.ref (ga K "UnknownRide")) = some false),
  fun K => decide (PySem.W.kitOne K (.ref (ga K "BadNumber")) (.ref (ga K "UnknownRide")) = some false),
  fun K => decide (PySem.W.exmOne K (.ref (ga K "BadNumber")) (.ref (ga K "UnknownStation")) = some false),
  fun K => decide (PySem.W.kitOne K (.ref (ga K "BadNumber")) (.ref (ga K "UnknownStation")) = some false),
  fun K => decide (PySem.W.exmOne K (.ref (ga K "TooLarge")) (.ref (ga K "RidesError")) = some true),
  fun K => decide (PySem.W.kitOne K (.ref (ga K "TooLarge")) (.ref (ga K "RidesError")) = some true),
  fun K => decide (PySem.W.exmOne K (.ref (ga K "TooLarge")) (.ref (ga K "UnknownRide")) = some false),
  fun K => decide (PySem.W.kitOne K (.ref (ga K "TooLarge")) (.ref (ga K "UnknownRide")) = some false),
  fun K => decide (PySem.W.exmOne K (.ref (ga K "TooLarge")) (.ref (ga K "UnknownStation")) = some false),
  fun K => decide (PySem.W.kitOne K (.ref (ga K "TooLarge")) (.ref (ga K "UnknownStation")) = some false)]
abbrev R : PySem.W.OpenRow := PySem.W.OpenLaw.row PySem.Challenge.rw_ridesonce_k00_a_town_holds_its_lists
abbrev hk : PySem.W.Hook := hookR 6 fa ex fn
def ob (s : PySem.W.SharedT) : He.AlD := obsRG 6 fa ex fn (HandSHeadRun.getT s)
theorem ob_eq (s : PySem.W.SharedT) : ob s = hk.obs s.abs := obsRG_eq (HandSHeadRun.getT_eq s)
def loose0 : List PySem.Str := [PySem.Str.ofString "_wall", PySem.Str.ofString "RidesError", PySem.Str.ofString "BadName", PySem.Str.ofString "Duplicate", PySem.Str.ofString "UnknownStation", PySem.Str.ofString "UnknownRide", PySem.Str.ofString "SameEnds", PySem.Str.ofString "NotKept", PySem.Str.ofString "BadNumber", PySem.Str.ofString "TooLarge", PySem.Str.ofString "STREET", PySem.Str.ofString "LETTERS", PySem.Str.ofString "LETTERS_AND_DIGITS", PySem.Str.ofString "LONGEST_NAME", PySem.Str.ofString "is_name", PySem.Str.ofString "check_new_name", PySem.Str.ofString "check_number", PySem.Str.ofString "check_station", PySem.Str.ofString "check_ride", PySem.Str.ofString "check_count", PySem.Str.ofString "Town", PySem.Str.ofString "_law_cell", PySem.Str.ofString "_law_pool", PySem.Str.ofString "_law_take", PySem.Str.ofString "_law_names", PySem.Str.ofString "_law_round", PySem.Str.ofString "_law_rides", PySem.Str.ofString "_law_free", PySem.Str.ofString "_law_same", PySem.Str.ofString "_law_fresh"]
def loose1 : List PySem.Str := [PySem.Str.ofString "_law_any_names", PySem.Str.ofString "_law_lists", PySem.Str.ofString "_law_station_is", PySem.Str.ofString "_law_ride_is", PySem.Str.ofString "_law_holds"]
def loose : List PySem.Str := loose0 ++ loose1
theorem run (w : World) : HandSHeadRun.RunEq R (PySem.W.view R.prog [38]) hk ob 6000 loose w := by
  intro os
  kernel_rfl
structure Txt (K : PySem.W.Frag) (mg : Str → Option Value) : Prop where
  m_is_name : mg ("is_name" : Str) = some (.ref (ga K "is_name"))
  m_check_new_name : mg ("check_new_name" : Str) = some (.ref (ga K "check_new_name"))
  m_check_number : mg ("check_number" : Str) = some (.ref (ga K "check_number"))
  m_check_station : mg ("check_station" : Str) = some (.ref (ga K "check_station"))
  m_check_ride : mg ("check_ride" : Str) = some (.ref (ga K "check_ride"))
  m_check_count : mg ("check_count" : Str) = some (.ref (ga K "check_count"))
  m__law_cell : mg ("_law_cell" : Str) = some (.ref (ga K "_law_cell"))
  m__law_pool : mg ("_law_pool" : Str) = some (.ref (ga K "_law_pool"))
  m__law_take : mg ("_law_take" : Str) = some (.ref (ga K "_law_take"))
  m__law_names : mg ("_law_names" : Str) = some (.ref (ga K "_law_names"))
  m__law_round : mg ("_law_round" : Str) = some (.ref (ga K "_law_round"))
  m__law_rides : mg ("_law_rides" : Str) = some (.ref (ga K "_law_rides"))
  m__law_free : mg ("_law_free" : Str) = some (.ref (ga K "_law_free"))
  m__law_same : mg ("_law_same" : Str) = some (.ref (ga K "_law_same"))
  m__law_fresh : mg ("_law_fresh" : Str) = some (.ref (ga K "_law_fresh"))
  m__law_any_names : mg ("_law_any_names" : Str) = some (.ref (ga K "_law_any_names"))
  m__law_lists : mg ("_law_lists" : Str) = some (.ref (ga K "_law_lists"))
  m__law_station_is : mg ("_law_station_is" : Str) = some (.ref (ga K "_law_station_is"))
  m__law_ride_is : mg ("_law_ride_is" : Str) = some (.ref (ga K "_law_ride_is"))
  m__law_holds : mg ("_law_holds" : Str) = some (.ref (ga K "_law_holds"))
  m_law : mg ("law" : Str) = some (.ref (ga K "law"))
  m_RidesError : mg ("RidesError" : Str) = some (.ref (ga K "RidesError"))
  m_BadName : mg ("BadName" : Str) = some (.ref (ga K "BadName"))
  m_Duplicate : mg ("Duplicate" : Str) = some (.ref (ga K "Duplicate"))
  m_UnknownStation : mg ("UnknownStation" : Str) = some (.ref (ga K "UnknownStation"))
  m_UnknownRide : mg ("UnknownRide" : Str) = some (.ref (ga K "UnknownRide"))
  m_SameEnds : mg ("SameEnds" : Str) = some (.ref (ga K "SameEnds"))
  m_NotKept : mg ("NotKept" : Str) = some (.ref (ga K "NotKept"))
  m_BadNumber : mg ("BadNumber" : Str) = some (.ref (ga K "BadNumber"))
  m_TooLarge : mg ("TooLarge" : Str) = some (.ref (ga K "TooLarge"))
  m_Town : mg ("Town" : Str) = some (.ref (ga K "Town"))
  g_STREET : ∃ u, mg ("STREET" : Str) = some u ∧ RelV (.str "street") u
  g_LETTERS : ∃ u, mg ("LETTERS" : Str) = some u ∧ RelV (.str "abcdefghijklmnopqrstuvwxyz") u
  g_LETTERS_AND_DIGITS : ∃ u, mg ("LETTERS_AND_DIGITS" : Str) = some u ∧ RelV (.str "abcdefghijklmnopqrstuvwxyz0123456789") u
  g_LONGEST_NAME : ∃ u, mg ("LONGEST_NAME" : Str) = some u ∧ RelV (.int 8) u
  n_ValueError : mg ("ValueError" : Str) = none
  n_abs : mg ("abs" : Str) = none
  n_all : mg ("all" : Str) = none
  n_bool : mg ("bool" : Str) = none
  n_dict : mg ("dict" : Str) = none
  n_int : mg ("int" : Str) = none
  n_isinstance : mg ("isinstance" : Str) = none
  n_len : mg ("len" : Str) = none
  n_list : mg ("list" : Str) = none
  n_min : mg ("min" : Str) = none
  n_range : mg ("range" : Str) = none
  n_str : mg ("str" : Str) = none
  n_sum : mg ("sum" : Str) = none
  n_tuple : mg ("tuple" : Str) = none
  k_RidesError : PySem.W.keepIn K (.ref (ga K "RidesError")) = true
  k_BadName : PySem.W.keepIn K (.ref (ga K "BadName")) = true
  na_BadName_name : NoAttr K (ga K "BadName") "name"
  k_Duplicate : PySem.W.keepIn K (.ref (ga K "Duplicate")) = true
  na_Duplicate_name : NoAttr K (ga K "Duplicate") "name"
  k_UnknownStation : PySem.W.keepIn K (.ref (ga K "UnknownStation")) = true
  na_UnknownStation_name : NoAttr K (ga K "UnknownStation") "name"
  k_UnknownRide : PySem.W.keepIn K (.ref (ga K "UnknownRide")) = true
  na_UnknownRide_name : NoAttr K (ga K "UnknownRide") "name"
  k_SameEnds : PySem.W.keepIn K (.ref (ga K "SameEnds")) = true
  na_SameEnds_name : NoAttr K (ga K "SameEnds") "name"
  k_NotKept : PySem.W.keepIn K (.ref (ga K "NotKept")) = true
  na_NotKept_name : NoAttr K (ga K "NotKept") "name"
  k_BadNumber : PySem.W.keepIn K (.ref (ga K "BadNumber")) = true
  na_BadNumber_number : NoAttr K (ga K "BadNumber") "number"
  k_TooLarge : PySem.W.keepIn K (.ref (ga K "TooLarge")) = true
  na_TooLarge_count : NoAttr K (ga K "TooLarge") "count"
  cl_Town : Cls K (ga K "Town")
  k_Town : PySem.W.keepIn K (.ref (ga K "Town")) = true
  mk_Town : Mk K (ga K "Town") (ma K (ga K "Town") "__init__")
  me_Town__station : Meth K (ga K "Town") "_station" (ma K (ga K "Town") "_station")
  me_Town__check_rides : Meth K (ga K "Town") "_check_rides" (ma K (ga K "Town") "_check_rides")
  me_Town_docks : Meth K (ga K "Town") "docks" (ma K (ga K "Town") "docks")
  me_Town_bikes : Meth K (ga K "Town") "bikes" (ma K (ga K "Town") "bikes")
  me_Town_free : Meth K (ga K "Town") "free" (ma K (ga K "Town") "free")
  me_Town_ride : Meth K (ga K "Town") "ride" (ma K (ga K "Town") "ride")
  me_Town_position : Meth K (ga K "Town") "position" (ma K (ga K "Town") "position")
  me_Town_passes : Meth K (ga K "Town") "passes" (ma K (ga K "Town") "passes")
  me_Town_without : Meth K (ga K "Town") "without" (ma K (ga K "Town") "without")
  na_Town__positions : NoAttr K (ga K "Town") "_positions"
  na_Town__stations : NoAttr K (ga K "Town") "_stations"
  na_Town_rides : NoAttr K (ga K "Town") "rides"
  na_Town_stations : NoAttr K (ga K "Town") "stations"
  ec_RidesError : ExcC K (ga K "RidesError")
  ox_BadName : OexC K (ga K "BadName")
  in_BadName : PySem.W.findIn K (.ref (ga K "BadName")) "__init__" = some (some (.ref (ma K (ga K "BadName") "__init__"))) ∧ PySem.W.typeIn K (.ref (ma K (ga K "BadName") "__init__")) = some (.type "function")
  ec_BadName : ExcC K (ga K "BadName")
  ox_Duplicate : OexC K (ga K "Duplicate")
  in_Duplicate : PySem.W.findIn K (.ref (ga K "Duplicate")) "__init__" = some (some (.ref (ma K (ga K "Duplicate") "__init__"))) ∧ PySem.W.typeIn K (.ref (ma K (ga K "Duplicate") "__init__")) = some (.type "function")
  ec_Duplicate : ExcC K (ga K "Duplicate")
  ox_UnknownStation : OexC K (ga K "UnknownStation")
  in_UnknownStation : PySem.W.findIn K (.ref (ga K "UnknownStation")) "__init__" = some (some (.ref (ma K (ga K "UnknownStation") "__init__"))) ∧ PySem.W.typeIn K (.ref (ma K (ga K "UnknownStation") "__init__")) = some (.type "function")
  ec_UnknownStation : ExcC K (ga K "UnknownStation")
  ox_UnknownRide : OexC K (ga K "UnknownRide")
  in_UnknownRide : PySem.W.findIn K (.ref (ga K "UnknownRide")) "__init__" = some (some (.ref (ma K (ga K "UnknownRide") "__init__"))) ∧ PySem.W.typeIn K (.ref (ma K (ga K "UnknownRide") "__init__")) = some (.type "function")
  ec_UnknownRide : ExcC K (ga K "UnknownRide")
  ox_SameEnds : OexC K (ga K "SameEnds")
  in_SameEnds : PySem.W.findIn K (.ref (ga K "SameEnds")) "__init__" = some (some (.ref (ma K (ga K "SameEnds") "__init__"))) ∧ PySem.W.typeIn K (.ref (ma K (ga K "SameEnds") "__init__")) = some (.type "function")
  ec_SameEnds : ExcC K (ga K "SameEnds")
  ox_NotKept : OexC K (ga K "NotKept")
  in_NotKept : PySem.W.findIn K (.ref (ga K "NotKept")) "__init__" = some (some (.ref (ma K (ga K "NotKept") "__init__"))) ∧ PySem.W.typeIn K (.ref (ma K (ga K "NotKept") "__init__")) = some (.type "function")
  ec_NotKept : ExcC K (ga K "NotKept")
  ox_BadNumber : OexC K (ga K "BadNumber")
  in_BadNumber : PySem.W.findIn K (.ref (ga K "BadNumber")) "__init__" = some (some (.ref (ma K (ga K "BadNumber") "__init__"))) ∧ PySem.W.typeIn K (.ref (ma K (ga K "BadNumber") "__init__")) = some (.type "function")
  ec_BadNumber : ExcC K (ga K "BadNumber")
  ox_TooLarge : OexC K (ga K "TooLarge")
  in_TooLarge : PySem.W.findIn K (.ref (ga K "TooLarge")) "__init__" = some (some (.ref (ma K (ga K "TooLarge") "__init__"))) ∧ PySem.W.typeIn K (.ref (ma K (ga K "TooLarge") "__init__")) = some (.type "function")
  ec_TooLarge : ExcC K (ga K "TooLarge")
  cm_Town_empty : ClX.CMet K (ga K "Town") (.type "type") "empty" (ma K (ga K "Town") "empty") (He5.wf K (ga K "Town") "classmethod" "empty")
  co_Town_MOST_STATIONS : ∃ u, Con K (ga K "Town") "MOST_STATIONS" (.int 12) u
  cv_Town_MOST_STATIONS : ∃ u, ClX.CVal K (ga K "Town") (.type "type") "MOST_STATIONS" (.int 12) u
  co_Town_MOST_RIDES : ∃ u, Con K (ga K "Town") "MOST_RIDES" (.int 24) u
  cv_Town_MOST_RIDES : ∃ u, ClX.CVal K (ga K "Town") (.type "type") "MOST_RIDES" (.int 24) u
  co_Town_MOST_DOCKS : ∃ u, Con K (ga K "Town") "MOST_DOCKS" (.int 999999) u
  cv_Town_MOST_DOCKS : ∃ u, ClX.CVal K (ga K "Town") (.type "type") "MOST_DOCKS" (.int 999999) u
  cr_Town : ClX.CRead K (ga K "Town") (.type "type")
  xm_BadName_RidesError : PySem.W.exmOne K (.ref (ga K "BadName")) (.ref (ga K "RidesError")) = some true
  kt_BadName_RidesError : PySem.W.kitOne K (.ref (ga K "BadName")) (.ref (ga K "RidesError")) = some true
  xm_BadName_UnknownRide : PySem.W.exmOne K (.ref (ga K "BadName")) (.ref (ga K "UnknownRide")) = some false
  kt_BadName_UnknownRide : PySem.W.kitOne K (.ref (ga K "BadName")) (.ref (ga K "UnknownRide")) = some false
  xm_BadName_UnknownStation : PySem.W.exmOne K (.ref (ga K "BadName")) (.ref (ga K "UnknownStation")) = some false
  kt_BadName_UnknownStation : PySem.W.kitOne K (.ref (ga K "BadName")) (.ref (ga K "UnknownStation")) = some false
  xm_Duplicate_RidesError : PySem.W.exmOne K (.ref (ga K "Duplicate")) (.ref (ga K "RidesError")) = some true
  kt_Duplicate_RidesError : PySem.W.kitOne K (.ref (ga K "Duplicate")) (.ref (ga K "RidesError")) = some true
  xm_Duplicate_UnknownRide : PySem.W.exmOne K (.ref (ga K "Duplicate")) (.ref (ga K "UnknownRide")) = some false
  kt_Duplicate_UnknownRide : PySem.W.kitOne K (.ref (ga K "Duplicate")) (.ref (ga K "UnknownRide")) = some false
  xm_Duplicate_UnknownStation : PySem.W.exmOne K (.ref (ga K "Duplicate")) (.ref (ga K "UnknownStation")) = some false
  kt_Duplicate_UnknownStation : PySem.W.kitOne K (.ref (ga K "Duplicate")) (.ref (ga K "UnknownStation")) = some false
  xm_UnknownStation_RidesError : PySem.W.exmOne K (.ref (ga K "UnknownStation")) (.ref (ga K "RidesError")) = some true
  kt_UnknownStation_RidesError : PySem.W.kitOne K (.ref (ga K "UnknownStation")) (.ref (ga K "RidesError")) = some true
  xm_UnknownStation_UnknownRide : PySem.W.exmOne K (.ref (ga K "UnknownStation")) (.ref (ga K "UnknownRide")) = some false
  kt_UnknownStation_UnknownRide : PySem.W.kitOne K (.ref (ga K "UnknownStation")) (.ref (ga K "UnknownRide")) = some false
  xm_UnknownStation_UnknownStation : PySem.W.exmOne K (.ref (ga K "UnknownStation")) (.ref (ga K "UnknownStation")) = some true
  kt_UnknownStation_UnknownStation : PySem.W.kitOne K (.ref (ga K "UnknownStation")) (.ref (ga K "UnknownStation")) = some true
  xm_UnknownRide_RidesError : PySem.W.exmOne K (.ref (ga K "UnknownRide")) (.ref (ga K "RidesError")) = some true
  kt_UnknownRide_RidesError : PySem.W.kitOne K (.ref (ga K "UnknownRide")) (.ref (ga K "RidesError")) = some true
  xm_UnknownRide_UnknownRide : PySem.W.exmOne K (.ref (ga K "UnknownRide")) (.ref (ga K "UnknownRide")) = some true
  kt_UnknownRide_UnknownRide : PySem.W.kitOne K (.ref (ga K "UnknownRide")) (.ref (ga K "UnknownRide")) = some true
  xm_UnknownRide_UnknownStation : PySem.W.exmOne K (.ref (ga K "UnknownRide")) (.ref (ga K "UnknownStation")) = some false
  kt_UnknownRide_UnknownStation : PySem.W.kitOne K (.ref (ga K "UnknownRide")) (.ref (ga K "UnknownStation")) = some false
  xm_SameEnds_RidesError : PySem.W.exmOne K (.ref (ga K "SameEnds")) (.ref (ga K "RidesError")) = some true
  kt_SameEnds_RidesError : PySem.W.kitOne K (.ref (ga K "SameEnds")) (.ref (ga K "RidesError")) = some true
  xm_SameEnds_UnknownRide : PySem.W.exmOne K (.ref (ga K "SameEnds")) (.ref (ga K "UnknownRide")) = some false
  kt_SameEnds_UnknownRide : PySem.W.kitOne K (.ref (ga K "SameEnds")) (.ref (ga K "UnknownRide")) = some false
  xm_SameEnds_UnknownStation : PySem.W.exmOne K (.ref (ga K "SameEnds")) (.ref (ga K "UnknownStation")) = some false
  kt_SameEnds_UnknownStation : PySem.W.kitOne K (.ref (ga K "SameEnds")) (.ref (ga K "UnknownStation")) = some false
  xm_NotKept_RidesError : PySem.W.exmOne K (.ref (ga K "NotKept")) (.ref (ga K "RidesError")) = some true
  kt_NotKept_RidesError : PySem.W.kitOne K (.ref (ga K "NotKept")) (.ref (ga K "RidesError")) = some true
  xm_NotKept_UnknownRide : PySem.W.exmOne K (.ref (ga K "NotKept")) (.ref (ga K "UnknownRide")) = some false
  kt_NotKept_UnknownRide : PySem.W.kitOne K (.ref (ga K "NotKept")) (.ref (ga K "UnknownRide")) = some false
  xm_NotKept_UnknownStation : PySem.W.exmOne K (.ref (ga K "NotKept")) (.ref (ga K "UnknownStation")) = some false
  kt_NotKept_UnknownStation : PySem.W.kitOne K (.ref (ga K "NotKept")) (.ref (ga K "UnknownStation")) = some false
  xm_BadNumber_RidesError : PySem.W.exmOne K (.ref (ga K "BadNumber")) (.ref (ga K "RidesError")) = some true
  kt_BadNumber_RidesError : PySem.W.kitOne K (.ref (ga K "BadNumber")) (.ref (ga K "RidesError")) = some true
  xm_BadNumber_UnknownRide : PySem.W.exmOne K (.ref (ga K "BadNumber")) (.ref (ga K "UnknownRide")) = some false
  kt_BadNumber_UnknownRide : PySem.W.kitOne K (.ref (ga K "BadNumber")) (.ref (ga K "UnknownRide")) = some false
  xm_BadNumber_UnknownStation : PySem.W.exmOne K (.ref (ga K "BadNumber")) (.ref (ga K "UnknownStation")) = some false
  kt_BadNumber_UnknownStation : PySem.W.kitOne K (.ref (ga K "BadNumber")) (.ref (ga K "UnknownStation")) = some false
  xm_TooLarge_RidesError : PySem.W.exmOne K (.ref (ga K "TooLarge")) (.ref (ga K "RidesError")) = some true
  kt_TooLarge_RidesError : PySem.W.kitOne K (.ref (ga K "TooLarge")) (.ref (ga K "RidesError")) = some true
  xm_TooLarge_UnknownRide : PySem.W.exmOne K (.ref (ga K "TooLarge")) (.ref (ga K "UnknownRide")) = some false
  kt_TooLarge_UnknownRide : PySem.W.kitOne K (.ref (ga K "TooLarge")) (.ref (ga K "UnknownRide")) = some false
  xm_TooLarge_UnknownStation : PySem.W.exmOne K (.ref (ga K "TooLarge")) (.ref (ga K "UnknownStation")) = some false
  kt_TooLarge_UnknownStation : PySem.W.kitOne K (.ref (ga K "TooLarge")) (.ref (ga K "UnknownStation")) = some false
  d_is_name : ∃ fd, FnP K "is_name" "is_name" s_is_name (ga K "is_name") fd
  d_check_new_name : ∃ fd, FnP K "check_new_name" "check_new_name" s_check_new_name (ga K "check_new_name") fd
  d_check_number : ∃ fd, FnP K "check_number" "check_number" s_check_number (ga K "check_number") fd
  d_check_station : ∃ fd, FnP K "check_station" "check_station" s_check_station (ga K "check_station") fd
  d_check_ride : ∃ fd, FnP K "check_ride" "check_ride" s_check_ride (ga K "check_ride") fd
  d_check_count : ∃ fd, FnP K "check_count" "check_count" s_check_count (ga K "check_count") fd
  d__law_cell : ∃ fd, FnP K "_law_cell" "_law_cell" s__law_cell (ga K "_law_cell") fd
  d__law_pool : ∃ fd, FnP K "_law_pool" "_law_pool" s__law_pool (ga K "_law_pool") fd
  d__law_take : ∃ fd, FnP K "_law_take" "_law_take" s__law_take (ga K "_law_take") fd
  d__law_names : ∃ fd, FnP K "_law_names" "_law_names" s__law_names (ga K "_law_names") fd
  d__law_round : ∃ fd, FnP K "_law_round" "_law_round" s__law_round (ga K "_law_round") fd
  d__law_rides : ∃ fd, FnP K "_law_rides" "_law_rides" s__law_rides (ga K "_law_rides") fd
  d__law_free : ∃ fd, FnP K "_law_free" "_law_free" s__law_free (ga K "_law_free") fd
  d__law_same : ∃ fd, FnP K "_law_same" "_law_same" s__law_same (ga K "_law_same") fd
  d__law_fresh : ∃ fd, FnP K "_law_fresh" "_law_fresh" s__law_fresh (ga K "_law_fresh") fd
  d__law_any_names : ∃ fd, FnP K "_law_any_names" "_law_any_names" s__law_any_names (ga K "_law_any_names") fd
  d__law_lists : ∃ fd, FnP K "_law_lists" "_law_lists" s__law_lists (ga K "_law_lists") fd
  d__law_station_is : ∃ fd, FnP K "_law_station_is" "_law_station_is" s__law_station_is (ga K "_law_station_is") fd
  d__law_ride_is : ∃ fd, FnP K "_law_ride_is" "_law_ride_is" s__law_ride_is (ga K "_law_ride_is") fd
  d__law_holds : ∃ fd, FnP K "_law_holds" "_law_holds" s__law_holds (ga K "_law_holds") fd
  d_law : ∃ fd, FnP K "law" "law" s_law (ga K "law") fd
  d_BadName___init__ : ∃ fd, FnP K "__init__" "BadName.__init__" s_BadName___init__ (ma K (ga K "BadName") "__init__") fd
  d_Duplicate___init__ : ∃ fd, FnP K "__init__" "Duplicate.__init__" s_Duplicate___init__ (ma K (ga K "Duplicate") "__init__") fd
  d_UnknownStation___init__ : ∃ fd, FnP K "__init__" "UnknownStation.__init__" s_UnknownStation___init__ (ma K (ga K "UnknownStation") "__init__") fd
  d_UnknownRide___init__ : ∃ fd, FnP K "__init__" "UnknownRide.__init__" s_UnknownRide___init__ (ma K (ga K "UnknownRide") "__init__") fd
  d_SameEnds___init__ : ∃ fd, FnP K "__init__" "SameEnds.__init__" s_SameEnds___init__ (ma K (ga K "SameEnds") "__init__") fd
  d_NotKept___init__ : ∃ fd, FnP K "__init__" "NotKept.__init__" s_NotKept___init__ (ma K (ga K "NotKept") "__init__") fd
  d_BadNumber___init__ : ∃ fd, FnP K "__init__" "BadNumber.__init__" s_BadNumber___init__ (ma K (ga K "BadNumber") "__init__") fd
  d_TooLarge___init__ : ∃ fd, FnP K "__init__" "TooLarge.__init__" s_TooLarge___init__ (ma K (ga K "TooLarge") "__init__") fd
  d_Town___init__ : ∃ fd, FnP K "__init__" "Town.__init__" s_Town___init__ (ma K (ga K "Town") "__init__") fd
  d_Town_empty : ∃ fd, FnP K "empty" "Town.empty" s_Town_empty (He5.wf K (ga K "Town") "classmethod" "empty") fd
  d_Town__station : ∃ fd, FnP K "_station" "Town._station" s_Town__station (ma K (ga K "Town") "_station") fd
  d_Town__check_rides : ∃ fd, FnP K "_check_rides" "Town._check_rides" s_Town__check_rides (ma K (ga K "Town") "_check_rides") fd
  d_Town_docks : ∃ fd, FnP K "docks" "Town.docks" s_Town_docks (ma K (ga K "Town") "docks") fd
  d_Town_bikes : ∃ fd, FnP K "bikes" "Town.bikes" s_Town_bikes (ma K (ga K "Town") "bikes") fd
  d_Town_free : ∃ fd, FnP K "free" "Town.free" s_Town_free (ma K (ga K "Town") "free") fd
  d_Town_ride : ∃ fd, FnP K "ride" "Town.ride" s_Town_ride (ma K (ga K "Town") "ride") fd
  d_Town_position : ∃ fd, FnP K "position" "Town.position" s_Town_position (ma K (ga K "Town") "position") fd
  d_Town_passes : ∃ fd, FnP K "passes" "Town.passes" s_Town_passes (ma K (ga K "Town") "passes") fd
  d_Town_without : ∃ fd, FnP K "without" "Town.without" s_Town_without (ma K (ga K "Town") "without") fd
theorem txt_of {K : PySem.W.Frag} {h : Heap} {mg : Str → Option Value} (X : K.In h) (G : h.Ns mainGlobals mg) (c : SaysR fa ex fn K) : Txt K mg where
  m_is_name := glo_ok X G (c.fact 0 rfl)
  m_check_new_name := glo_ok X G (c.fact 1 rfl)
  m_check_number := glo_ok X G (c.fact 2 rfl)
  m_check_station := glo_ok X G (c.fact 3 rfl)
  m_check_ride := glo_ok X G (c.fact 4 rfl)
  m_check_count := glo_ok X G (c.fact 5 rfl)
  m__law_cell := glo_ok X G (c.fact 6 rfl)
  m__law_pool := glo_ok X G (c.fact 7 rfl)
  m__law_take := glo_ok X G (c.fact 8 rfl)
  m__law_names := glo_ok X G (c.fact 9 rfl)
  m__law_round := glo_ok X G (c.fact 10 rfl)
  m__law_rides := glo_ok X G (c.fact 11 rfl)
  m__law_free := glo_ok X G (c.fact 12 rfl)
  m__law_same := glo_ok X G (c.fact 13 rfl)
  m__law_fresh := glo_ok X G (c.fact 14 rfl)
  m__law_any_names := glo_ok X G (c.fact 15 rfl)
  m__law_lists := glo_ok X G (c.fact 16 rfl)
  m__law_station_is := glo_ok X G (c.fact 17 rfl)
  m__law_ride_is := glo_ok X G (c.fact 18 rfl)
  m__law_holds := glo_ok X G (c.fact 19 rfl)
  m_law := glo_ok X G (c.fact 20 rfl)
  m_RidesError := glo_ok X G (c.fact 21 rfl)
  m_BadName := glo_ok X G (c.fact 22 rfl)
  m_Duplicate := glo_ok X G (c.fact 23 rfl)
  m_UnknownStation := glo_ok X G (c.fact 24 rfl)
  m_UnknownRide := glo_ok X G (c.fact 25 rfl)
  m_SameEnds := glo_ok X G (c.fact 26 rfl)
  m_NotKept := glo_ok X G (c.fact 27 rfl)
  m_BadNumber := glo_ok X G (c.fact 28 rfl)
  m_TooLarge := glo_ok X G (c.fact 29 rfl)
  m_Town := glo_ok X G (c.fact 30 rfl)
  g_STREET := by obtain ⟨t, h⟩ := str_ok X G (c.fact 31 rfl); exact ⟨_, h, _, rfl⟩
  g_LETTERS := by obtain ⟨t, h⟩ := str_ok X G (c.fact 32 rfl); exact ⟨_, h, _, rfl⟩
  g_LETTERS_AND_DIGITS := by obtain ⟨t, h⟩ := str_ok X G (c.fact 33 rfl); exact ⟨_, h, _, rfl⟩
  g_LONGEST_NAME := by obtain ⟨t, h⟩ := int_ok X G (c.fact 34 rfl); exact ⟨_, h, _, rfl⟩
  n_ValueError := free_ok X G (c.fact 35 rfl)
  n_abs := free_ok X G (c.fact 36 rfl)
  n_all := free_ok X G (c.fact 37 rfl)
  n_bool := free_ok X G (c.fact 38 rfl)
  n_dict := free_ok X G (c.fact 39 rfl)
  n_int := free_ok X G (c.fact 40 rfl)
  n_isinstance := free_ok X G (c.fact 41 rfl)
  n_len := free_ok X G (c.fact 42 rfl)
  n_list := free_ok X G (c.fact 43 rfl)
  n_min := free_ok X G (c.fact 44 rfl)
  n_range := free_ok X G (c.fact 45 rfl)
  n_str := free_ok X G (c.fact 46 rfl)
  n_sum := free_ok X G (c.fact 47 rfl)
  n_tuple := free_ok X G (c.fact 48 rfl)
  k_RidesError := keep_ok (c.fact 49 rfl)
  k_BadName := keep_ok (c.fact 50 rfl)
  na_BadName_name := noat_ok (c.fact 51 rfl)
  k_Duplicate := keep_ok (c.fact 52 rfl)
  na_Duplicate_name := noat_ok (c.fact 53 rfl)
  k_UnknownStation := keep_ok (c.fact 54 rfl)
  na_UnknownStation_name := noat_ok (c.fact 55 rfl)
  k_UnknownRide := keep_ok (c.fact 56 rfl)
  na_UnknownRide_name := noat_ok (c.fact 57 rfl)
  k_SameEnds := keep_ok (c.fact 58 rfl)
  na_SameEnds_name := noat_ok (c.fact 59 rfl)
  k_NotKept := keep_ok (c.fact 60 rfl)
  na_NotKept_name := noat_ok (c.fact 61 rfl)
  k_BadNumber := keep_ok (c.fact 62 rfl)
  na_BadNumber_number := noat_ok (c.fact 63 rfl)
  k_TooLarge := keep_ok (c.fact 64 rfl)
  na_TooLarge_count := noat_ok (c.fact 65 rfl)
  cl_Town := cls_ok (c.fact 66 rfl)
  k_Town := keep_ok (c.fact 67 rfl)
  mk_Town := mkr_ok (c.fact 68 rfl)
  me_Town__station := meth_ok (c.fact 69 rfl)
  me_Town__check_rides := meth_ok (c.fact 70 rfl)
  me_Town_docks := meth_ok (c.fact 71 rfl)
  me_Town_bikes := meth_ok (c.fact 72 rfl)
  me_Town_free := meth_ok (c.fact 73 rfl)
  me_Town_ride := meth_ok (c.fact 74 rfl)
  me_Town_position := meth_ok (c.fact 75 rfl)
  me_Town_passes := meth_ok (c.fact 76 rfl)
  me_Town_without := meth_ok (c.fact 77 rfl)
  na_Town__positions := noat_ok (c.fact 78 rfl)
  na_Town__stations := noat_ok (c.fact 79 rfl)
  na_Town_rides := noat_ok (c.fact 80 rfl)
  na_Town_stations := noat_ok (c.fact 81 rfl)
  ec_RidesError := excB_ok (c.more 0 rfl)
  ox_BadName := oexB_ok (c.more 1 rfl)
  in_BadName := ⟨eqO_ok (ba (c.more 2 rfl)).1, of_decide_eq_true (ba (c.more 2 rfl)).2⟩
  ec_BadName := excB_ok (c.more 3 rfl)
  ox_Duplicate := oexB_ok (c.more 4 rfl)
  in_Duplicate := ⟨eqO_ok (ba (c.more 5 rfl)).1, of_decide_eq_true (ba (c.more 5 rfl)).2⟩
  ec_Duplicate := excB_ok (c.more 6 rfl)
  ox_UnknownStation := oexB_ok (c.more 7 rfl)
  in_UnknownStation := ⟨eqO_ok (ba (c.more 8 rfl)).1, of_decide_eq_true (ba (c.more 8 rfl)).2⟩
  ec_UnknownStation := excB_ok (c.more 9 rfl)
  ox_UnknownRide := oexB_ok (c.more 10 rfl)
  in_UnknownRide := ⟨eqO_ok (ba (c.more 11 rfl)).1, of_decide_eq_true (ba (c.more 11 rfl)).2⟩
  ec_UnknownRide := excB_ok (c.more 12 rfl)
  ox_SameEnds := oexB_ok (c.more 13 rfl)
  in_SameEnds := ⟨eqO_ok (ba (c.more 14 rfl)).1, of_decide_eq_true (ba (c.more 14 rfl)).2⟩
  ec_SameEnds := excB_ok (c.more 15 rfl)
  ox_NotKept := oexB_ok (c.more 16 rfl)
  in_NotKept := ⟨eqO_ok (ba (c.more 17 rfl)).1, of_decide_eq_true (ba (c.more 17 rfl)).2⟩
  ec_NotKept := excB_ok (c.more 18 rfl)
  ox_BadNumber := oexB_ok (c.more 19 rfl)
  in_BadNumber := ⟨eqO_ok (ba (c.more 20 rfl)).1, of_decide_eq_true (ba (c.more 20 rfl)).2⟩
  ec_BadNumber := excB_ok (c.more 21 rfl)
  ox_TooLarge := oexB_ok (c.more 22 rfl)
  in_TooLarge := ⟨eqO_ok (ba (c.more 23 rfl)).1, of_decide_eq_true (ba (c.more 23 rfl)).2⟩
  ec_TooLarge := excB_ok (c.more 24 rfl)
  cm_Town_empty := He5.cmet_of (ba (c.more 25 rfl)).1 (ba (c.more 25 rfl)).2
  co_Town_MOST_STATIONS := conB_ok (c.more 26 rfl)
  cv_Town_MOST_STATIONS := cvalB_ok (c.more 27 rfl)
  co_Town_MOST_RIDES := conB_ok (c.more 28 rfl)
  cv_Town_MOST_RIDES := cvalB_ok (c.more 29 rfl)
  co_Town_MOST_DOCKS := conB_ok (c.more 30 rfl)
  cv_Town_MOST_DOCKS := cvalB_ok (c.more 31 rfl)
  cr_Town := creadB_ok (c.more 32 rfl)
  xm_BadName_RidesError := of_decide_eq_true (c.more 33 rfl)
  kt_BadName_RidesError := of_decide_eq_true (c.more 34 rfl)
  xm_BadName_UnknownRide := of_decide_eq_true (c.more 35 rfl)
  kt_BadName_UnknownRide := of_decide_eq_true (c.more 36 rfl)
  xm_BadName_UnknownStation := of_decide_eq_true (c.more 37 rfl)
  kt_BadName_UnknownStation := of_decide_eq_true (c.more 38 rfl)
  xm_Duplicate_RidesError := of_decide_eq_true (c.more 39 rfl)
  kt_Duplicate_RidesError := of_decide_eq_true (c.more 40 rfl)
  xm_Duplicate_UnknownRide := of_decide_eq_true (c.more 41 rfl)
  kt_Duplicate_UnknownRide := of_decide_eq_true (c.more 42 rfl)
  xm_Duplicate_UnknownStation := of_decide_eq_true (c.more 43 rfl)
  kt_Duplicate_UnknownStation := of_decide_eq_true (c.more 44 rfl)
  xm_UnknownStation_RidesError := of_decide_eq_true (c.more 45 rfl)
  kt_UnknownStation_RidesError := of_decide_eq_true (c.more 46 rfl)
  xm_UnknownStation_UnknownRide := of_decide_eq_true (c.more 47 rfl)
  kt_UnknownStation_UnknownRide := of_decide_eq_true (c.more 48 rfl)
  xm_UnknownStation_UnknownStation := of_decide_eq_true (c.more 49 rfl)
  kt_UnknownStation_UnknownStation := of_decide_eq_true (c.more 50 rfl)
  xm_UnknownRide_RidesError := of_decide_eq_true (c.more 51 rfl)
  kt_UnknownRide_RidesError := of_decide_eq_true (c.more 52 rfl)
  xm_UnknownRide_UnknownRide := of_decide_eq_true (c.more 53 rfl)
  kt_UnknownRide_UnknownRide := of_decide_eq_true (c.more 54 rfl)
  xm_UnknownRide_UnknownStation := of_decide_eq_true (c.more 55 rfl)
  kt_UnknownRide_UnknownStation := of_decide_eq_true (c.more 56 rfl)
  xm_SameEnds_RidesError := of_decide_eq_true (c.more 57 rfl)
  kt_SameEnds_RidesError := of_decide_eq_true (c.more 58 rfl)
  xm_SameEnds_UnknownRide := of_decide_eq_true (c.more 59 rfl)
  kt_SameEnds_UnknownRide := of_decide_eq_true (c.more 60 rfl)
  xm_SameEnds_UnknownStation := of_decide_eq_true (c.more 61 rfl)
  kt_SameEnds_UnknownStation := of_decide_eq_true (c.more 62 rfl)
  xm_NotKept_RidesError := of_decide_eq_true (c.more 63 rfl)
  kt_NotKept_RidesError := of_decide_eq_true (c.more 64 rfl)
  xm_NotKept_UnknownRide := of_decide_eq_true (c.more 65 rfl)
  kt_NotKept_UnknownRide := of_decide_eq_true (c.more 66 rfl)
  xm_NotKept_UnknownStation := of_decide_eq_true (c.more 67 rfl)
  kt_NotKept_UnknownStation := of_decide_eq_true (c.more 68 rfl)
  xm_BadNumber_RidesError := of_decide_eq_true (c.more 69 rfl)
  kt_BadNumber_RidesError := of_decide_eq_true (c.more 70 rfl)
  xm_BadNumber_UnknownRide := of_decide_eq_true (c.more 71 rfl)
  kt_BadNumber_UnknownRide := of_decide_eq_true (c.more 72 rfl)
  xm_BadNumber_UnknownStation := of_decide_eq_true (c.more 73 rfl)
  kt_BadNumber_UnknownStation := of_decide_eq_true (c.more 74 rfl)
  xm_TooLarge_RidesError := of_decide_eq_true (c.more 75 rfl)
  kt_TooLarge_RidesError := of_decide_eq_true (c.more 76 rfl)
  xm_TooLarge_UnknownRide := of_decide_eq_true (c.more 77 rfl)
  kt_TooLarge_UnknownRide := of_decide_eq_true (c.more 78 rfl)
  xm_TooLarge_UnknownStation := of_decide_eq_true (c.more 79 rfl)
  kt_TooLarge_UnknownStation := of_decide_eq_true (c.more 80 rfl)
  d_is_name := c.def_ 0 rfl
  d_check_new_name := c.def_ 1 rfl
  d_check_number := c.def_ 2 rfl
  d_check_station := c.def_ 3 rfl
  d_check_ride := c.def_ 4 rfl
  d_check_count := c.def_ 5 rfl
  d__law_cell := c.def_ 6 rfl
  d__law_pool := c.def_ 7 rfl
  d__law_take := c.def_ 8 rfl
  d__law_names := c.def_ 9 rfl
  d__law_round := c.def_ 10 rfl
  d__law_rides := c.def_ 11 rfl
  d__law_free := c.def_ 12 rfl
  d__law_same := c.def_ 13 rfl
  d__law_fresh := c.def_ 14 rfl
  d__law_any_names := c.def_ 15 rfl
  d__law_lists := c.def_ 16 rfl
  d__law_station_is := c.def_ 17 rfl
  d__law_ride_is := c.def_ 18 rfl
  d__law_holds := c.def_ 19 rfl
  d_law := c.def_ 20 rfl
  d_BadName___init__ := c.def_ 21 rfl
  d_Duplicate___init__ := c.def_ 22 rfl
  d_UnknownStation___init__ := c.def_ 23 rfl
  d_UnknownRide___init__ := c.def_ 24 rfl
  d_SameEnds___init__ := c.def_ 25 rfl
  d_NotKept___init__ := c.def_ 26 rfl
  d_BadNumber___init__ := c.def_ 27 rfl
  d_TooLarge___init__ := c.def_ 28 rfl
  d_Town___init__ := c.def_ 29 rfl
  d_Town_empty := c.def_ 30 rfl
  d_Town__station := c.def_ 31 rfl
  d_Town__check_rides := c.def_ 32 rfl
  d_Town_docks := c.def_ 33 rfl
  d_Town_bikes := c.def_ 34 rfl
  d_Town_free := c.def_ 35 rfl
  d_Town_ride := c.def_ 36 rfl
  d_Town_position := c.def_ 37 rfl
  d_Town_passes := c.def_ 38 rfl
  d_Town_without := c.def_ 39 rfl
theorem Txt.b_ValueError {K : PySem.W.Frag} {mg : Str → Option Value} (_ : Txt K mg) : bootBuiltins "ValueError" = some (.type "ValueError") := by decide +kernel
theorem Txt.b_abs {K : PySem.W.Frag} {mg : Str → Option Value} (_ : Txt K mg) : bootBuiltins "abs" = some (.builtin "abs") := by decide +kernel
theorem Txt.b_all {K : PySem.W.Frag} {mg : Str → Option Value} (_ : Txt K mg) : bootBuiltins "all" = some (.builtin "all") := by decide +kernel
theorem Txt.b_bool {K : PySem.W.Frag} {mg : Str → Option Value} (_ : Txt K mg) : bootBuiltins "bool" = some (.type "bool") := by decide +kernel
theorem Txt.b_dict {K : PySem.W.Frag} {mg : Str → Option Value} (_ : Txt K mg) : bootBuiltins "dict" = some (.type "dict") := by decide +kernel
theorem Txt.b_int {K : PySem.W.Frag} {mg : Str → Option Value} (_ : Txt K mg) : bootBuiltins "int" = some (.type "int") := by decide +kernel
theorem Txt.b_isinstance {K : PySem.W.Frag} {mg : Str → Option Value} (_ : Txt K mg) : bootBuiltins "isinstance" = some (.builtin "isinstance") := by decide +kernel
theorem Txt.b_len {K : PySem.W.Frag} {mg : Str → Option Value} (_ : Txt K mg) : bootBuiltins "len" = some (.builtin "len") := by decide +kernel
theorem Txt.b_list {K : PySem.W.Frag} {mg : Str → Option Value} (_ : Txt K mg) : bootBuiltins "list" = some (.type "list") := by decide +kernel
theorem Txt.b_min {K : PySem.W.Frag} {mg : Str → Option Value} (_ : Txt K mg) : bootBuiltins "min" = some (.builtin "min") := by decide +kernel
theorem Txt.b_range {K : PySem.W.Frag} {mg : Str → Option Value} (_ : Txt K mg) : bootBuiltins "range" = some (.type "range") := by decide +kernel
theorem Txt.b_str {K : PySem.W.Frag} {mg : Str → Option Value} (_ : Txt K mg) : bootBuiltins "str" = some (.type "str") := by decide +kernel
theorem Txt.b_sum {K : PySem.W.Frag} {mg : Str → Option Value} (_ : Txt K mg) : bootBuiltins "sum" = some (.builtin "sum") := by decide +kernel
theorem Txt.b_tuple {K : PySem.W.Frag} {mg : Str → Option Value} (_ : Txt K mg) : bootBuiltins "tuple" = some (.type "tuple") := by decide +kernel
end Rk

namespace Rk
open PySem PySem.Spec PyProof.Rows L2 He Rb C8 SX
/-! ### the pool of draws -/
def PoolL (pl : List V) : Prop := ∃ a b c : Int, pl = [.int a, .int b, .int c] ∧ 0 ≤ a ∧ 0 ≤ b ∧ b < 2147483647 ∧ 0 ≤ c
def spCell (K : PySem.W.Frag) : Sp := fun vs H Q _ => ∃ (a : Addr) (ns : List Int) (k : Nat), vs = [.ref a, .int k] ∧ SqL K H a (ns.map V.int) ∧ ∀ n : Int, Q (.int n) H
def spPool : Sp := fun vs H Q _ => ∃ i : Int, vs = [.int i] ∧ ∀ p pl, H p = none → PoolL pl → Q (.ref p) (upd H p (.lst pl))
def spTake : Sp := fun vs H Q _ => ∃ (p : Addr) (n : Int) (pl : List V), vs = [.ref p, .int n] ∧ H p = some (.lst pl) ∧ PoolL pl ∧ 1 ≤ n ∧ n < 1073741824 ∧
  ∀ (d : Int) (pl' : List V), 0 ≤ d → d < n → PoolL pl' → Q (.int d) (upd H p (.lst pl'))
abbrev N__law_cell : List Str := ["script", "k"]
theorem sc__law_cell : FnScope N__law_cell ["script", "k"] (defScope s__law_cell) := ⟨rfl, rfl, rfl, by decide +kernel, rfl, by decide +kernel, by decide +kernel⟩
abbrev N__law_pool : List Str := ["cell", "size"]
theorem sc__law_pool : FnScope N__law_pool ["cell"] (defScope s__law_pool) := ⟨rfl, rfl, rfl, by decide +kernel, rfl, by decide +kernel, by decide +kernel⟩
abbrev N__law_take : List Str := ["pool", "limit", "digit", "first", "second", "third"]
theorem sc__law_take : FnScope N__law_take ["pool", "limit"] (defScope s__law_take) := ⟨rfl, rfl, rfl, by decide +kernel, rfl, by decide +kernel, by decide +kernel⟩
section
variable {P : Program} {w : World} {K : PySem.W.Frag} {mg : Str → Option Value} {base : Heap}
theorem ok_cell (T : Txt K mg) : Cal P w K mg base 1 "_law_cell" (spCell K) := by
  obtain ⟨fd, F⟩ := T.d__law_cell
  refine cal_of F (fn_ok0 F sc__law_cell (fun vs H Q E h => ?_) (fun cdv A outer s H vs Q E hr h => ?_)) T.m__law_cell fun _ _ _ _ _ _ us hl => match us, hl with | [_, _], _ => rfl
  · obtain ⟨a, ns, k, rfl, _⟩ := h
    rfl
  · obtain ⟨a, ns, k, rfl, hS, q⟩ := h
    refine ⟨_, pss_cons (ps_if (pt_cmpR op_lt (pv 1) (pe_callB (call_lenK (K := K)) (by rfl) T.n_len T.b_len (pa_cons (pv 0) (pa_nil))) (nomark _))
      (pss_one (ps_ret (pe_ix (ix_listK (K := K)) (pv 0) (pv 1) (fun _ _ => rfl))))
      (pss_nil))
      (pss_one (ps_ret (pe_int))), ?_⟩
    refine ⟨_, rfl, _, rfl, _, _, rfl, Or.inl ⟨_, hS, rfl⟩, _, _, rfl, rfl, _, rfl, ?_⟩
    refine ite2 (fun c => ?_) (fun c => ?_)
    · have c1 : k < (ns.map V.int).length := by simpa using of_decide_eq_true c
      have c2 : k < ns.length := by simpa using c1
      refine ⟨_, rfl, _, rfl, a, _, k, .int ns[k], rfl, rfl, hS, atI_nat (by simp [c2]), q _⟩
    · exact q 0
theorem ok_pool (T : Txt K mg) : Cal P w K mg base 1 "_law_pool" spPool := by
  obtain ⟨fd, F⟩ := T.d__law_pool
  refine cal_of F (fn_ok0 F sc__law_pool (fun vs H Q E h => ?_) (fun cdv A outer s H vs Q E hr h => ?_)) T.m__law_pool fun _ _ _ _ _ _ us hl => match us, hl with | [_], _ => rfl
  · obtain ⟨i, rfl, _⟩ := h
    rfl
  · obtain ⟨i, rfl, q⟩ := h
    refine ⟨_, pss_cons (ps_set (i := 1) sc__law_pool.nd rfl (Or.inl rfl) (pe_callB call_abs (by rfl) T.n_abs T.b_abs (pa_cons (pe_callTy call_int1 (by rfl) T.n_int T.b_int (pa_cons (pv 0) (pa_nil))) (pa_nil))))
      (pss_cons (ps_if (pt_cmpR op_ge (pv 1) (pe_op op_pow (pe_int) (pe_int)) (nomark _))
      (pss_one (ps_ret (pe_lst (pa_cons (pe_op op_sub (pv 1) (pe_op op_pow (pe_int) (pe_int))) (pa_cons (pe_op op_mod (pv 1) (pe_int)) (pa_cons (pe_int) (pa_nil)))))))
      (pss_nil))
      (pss_one (ps_ret (pe_lst (pa_cons (pe_int) (pa_cons (pe_op op_mod (pv 1) (pe_int)) (pa_cons (pe_int) (pa_nil)))))))), ?_⟩
    refine ⟨_, rfl, Or.inl ⟨i, rfl, i, rfl, ?_⟩⟩
    have h0 : 0 ≤ (if i < 0 then -i else i) := by split <;> omega
    generalize (if i < 0 then -i else i) = z at h0
    refine ⟨_, rfl, _, _, rfl, rfl, ⟨by decide, by decide, by decide⟩, _, _, rfl, rfl, _, rfl, ?_⟩
    refine ite2 (fun c => ?_) (fun c => ?_)
    · have c1 := of_decide_eq_true c
      refine ⟨_, rfl, _, _, rfl, rfl, ⟨by decide, by decide, by decide⟩, _, _, rfl, rfl, _, rfl, _, _, rfl, rfl, (by show (0:Int) < 2147483647; decide), (by show 3 ≤ sizeLine; decide), fun p hp => q p _ hp ⟨_, _, _, rfl, Int.sub_nonneg.mpr c1, Int.emod_nonneg _ (by decide), Int.emod_lt_of_pos _ (by decide), by decide⟩⟩
    · refine ⟨_, rfl, _, _, rfl, rfl, (by show (0:Int) < 2147483647; decide), (by show 3 ≤ sizeLine; decide), fun p hp => q p _ hp ⟨_, _, _, rfl, by decide, Int.emod_nonneg _ (by decide), Int.emod_lt_of_pos _ (by decide), by decide⟩⟩
theorem ok_take (T : Txt K mg) : Cal P w K mg base 1 "_law_take" spTake := by
  obtain ⟨fd, F⟩ := T.d__law_take
  refine cal_of F (fn_ok0 F sc__law_take (fun vs H Q E h => ?_) (fun cdv A outer s H vs Q E hr h => ?_)) T.m__law_take fun _ _ _ _ _ _ us hl => match us, hl with | [_, _], _ => rfl
  · obtain ⟨p, n, pl, rfl, _⟩ := h
    rfl
  · obtain ⟨p, n, pl, rfl, hp, ⟨a, b, c, rfl, ha, hb, hb2, hc⟩, hn, hn2, q⟩ := h
    refine ⟨_, pss_cons (ps_asg (pe_op op_add (pe_ix (ix_listK (K := K)) (pv 0) (pe_int) (fun _ _ => rfl)) (pe_int)) (pg_sub (pv 0) (pe_int) set_list))
      (pss_cons (ps_if (pt_cmpR op_gt (pe_ix (ix_listK (K := K)) (pv 0) (pe_int) (fun _ _ => rfl)) (pe_int) (nomark _))
      (pss_cons (ps_set (i := 2) sc__law_take.nd rfl (Or.inl rfl) (pe_op op_mod (pe_callTy call_int1 (by rfl) T.n_int T.b_int (pa_cons (pe_ix (ix_listK (K := K)) (pv 0) (pe_int) (fun _ _ => rfl)) (pa_nil))) (pv 1)))
      (pss_cons (ps_asg (pe_op op_fdiv (pe_callTy call_int1 (by rfl) T.n_int T.b_int (pa_cons (pe_ix (ix_listK (K := K)) (pv 0) (pe_int) (fun _ _ => rfl)) (pa_nil))) (pv 1)) (pg_sub (pv 0) (pe_int) set_list))
      (pss_one (ps_ret (pv 2)))))
      (pss_nil))
      (pss_cons (ps_set (i := 3) sc__law_take.nd rfl (Or.inl rfl) (pe_op op_mod (pe_callTy call_int1 (by rfl) T.n_int T.b_int (pa_cons (pe_op op_add (pe_op op_add (pe_op op_mul (pe_ix (ix_listK (K := K)) (pv 0) (pe_int) (fun _ _ => rfl)) (pe_int)) (pe_op op_mul (pe_ix (ix_listK (K := K)) (pv 0) (pe_int) (fun _ _ => rfl)) (pe_int))) (pe_int)) (pa_nil))) (pe_int)))
      (pss_cons (ps_set (i := 4) sc__law_take.nd rfl (Or.inl rfl) (pe_op op_mod (pe_callTy call_int1 (by rfl) T.n_int T.b_int (pa_cons (pe_op op_add (pe_op op_mul (pv 3) (pv 3)) (pe_op op_fdiv (pv 3) (pe_int))) (pa_nil))) (pe_int)))
      (pss_cons (ps_set (i := 5) sc__law_take.nd rfl (Or.inl rfl) (pe_op op_mod (pe_callTy call_int1 (by rfl) T.n_int T.b_int (pa_cons (pe_op op_mul (pv 4) (pe_op op_add (pe_op op_add (pe_op op_fdiv (pv 4) (pe_int)) (pe_ix (ix_listK (K := K)) (pv 0) (pe_int) (fun _ _ => rfl))) (pe_int))) (pa_nil))) (pe_int)))
      (pss_one (ps_ret (pe_op op_mod (pe_op op_fdiv (pv 5) (pe_int)) (pv 1)))))))), ?_⟩
    refine ⟨_, rfl, p, _, 2, .int c, rfl, rfl, SqL.of hp, rfl, _, _, rfl, rfl, _, rfl, p, _, 2, 2, rfl, rfl, hp, rfl, ?_⟩
    have h1 : upd H p (.lst [.int a, .int b, .int (c + 1)]) p = some (.lst [.int a, .int b, .int (c + 1)]) := upd_same
    refine ⟨_, rfl, p, _, 0, .int a, rfl, rfl, SqL.of h1, rfl, _, _, rfl, rfl, _, rfl, ?_⟩
    refine ite2 (fun c0 => ?_) (fun c0 => ?_)
    · have c1 := of_decide_eq_true c0
      refine ⟨_, rfl, p, _, 0, .int a, rfl, rfl, SqL.of h1, rfl, Or.inl ⟨a, rfl, _, rfl, _, _, rfl, rfl, (by show (0:Int) < n; omega), ?_⟩⟩
      refine ⟨_, rfl, p, _, 0, .int a, rfl, rfl, SqL.of h1, rfl, Or.inl ⟨a, rfl, _, rfl, _, _, rfl, rfl, ⟨by omega, hn2⟩, _, rfl, p, _, 0, 0, rfl, rfl, h1, rfl, ?_⟩⟩
      refine ⟨_, rfl, ?_⟩
      show Q (.int (a % n)) (upd (upd H p _) p _)
      rw [upd_upd]
      exact q _ _ (Int.emod_nonneg _ (by omega)) (Int.emod_lt_of_pos _ (by omega)) ⟨_, _, _, rfl, Int.ediv_nonneg ha (by omega), hb, hb2, by omega⟩
    · refine ⟨_, rfl, p, _, 1, .int b, rfl, rfl, SqL.of h1, rfl, _, _, rfl, rfl, Or.inr ⟨by decide, by decide⟩, _, rfl, p, _, 2, .int (c + 1), rfl, rfl, SqL.of h1, rfl, _, _, rfl, rfl, Or.inr ⟨by decide, by decide⟩, _, _, rfl, rfl, _, _, rfl, rfl, Or.inl ⟨_, rfl, _, _, rfl, rfl, (by show (0:Int) < 2147483647; decide), ?_⟩⟩
      have f0 := Int.emod_nonneg (b * 48271 + (c + 1) * 69621 + 11) (b := 2147483647) (by decide)
      have f1 := Int.emod_lt_of_pos (b * 48271 + (c + 1) * 69621 + 11) (b := 2147483647) (by decide)
      generalize (b * 48271 + (c + 1) * 69621 + 11) % 2147483647 = f at f0 f1
      refine ⟨_, rfl, _, rfl, _, _, rfl, rfl, Or.inl ⟨by omega, by omega⟩, _, rfl, _, _, rfl, rfl, ⟨by decide, by decide⟩, _, _, rfl, rfl, Or.inl ⟨_, rfl, _, _, rfl, rfl, (by show (0:Int) < 2147483629; decide), ?_⟩⟩
      have g0 := Int.emod_nonneg (f * f + f / 4099) (b := 2147483629) (by decide)
      have g1 := Int.emod_lt_of_pos (f * f + f / 4099) (b := 2147483629) (by decide)
      generalize (f * f + f / 4099) % 2147483629 = g at g0 g1
      refine ⟨_, rfl, _, rfl, _, _, rfl, rfl, ⟨by decide, by decide⟩, _, rfl, p, _, 2, .int (c + 1), rfl, rfl, SqL.of h1, rfl, _, _, rfl, rfl, _, _, rfl, rfl, _, _, rfl, rfl, Or.inl ⟨by omega, by omega⟩, Or.inl ⟨_, rfl, _, _, rfl, rfl, (by show (0:Int) < 2147483587; decide), ?_⟩⟩
      refine ⟨_, rfl, _, _, rfl, rfl, ⟨by decide, by decide⟩, _, rfl, _, _, rfl, rfl, (by show (0:Int) < n; omega), ?_⟩
      exact q _ _ (Int.emod_nonneg _ (by omega)) (Int.emod_lt_of_pos _ (by omega)) ⟨_, _, _, rfl, ha, hb, hb2, by omega⟩
end
end Rk

namespace Rk
open PySem PySem.Spec PyProof.Rows L2 He Rb C8 SX
/-! ### names -/
def ltr (c : Nat) : Bool := decide (97 ≤ c ∧ c ≤ 122)
def lod (c : Nat) : Bool := ltr c || decide (48 ≤ c ∧ c ≤ 57)
def isNm (s : Str) : Bool := !decide (s = "street") && (decide (1 ≤ s.length ∧ s.length ≤ 8) && ((s.cps.toList.head?.any ltr) && s.cps.toList.all lod))
theorem isNm_len {s : Str} (h : isNm s = true) : 1 ≤ s.length ∧ s.length ≤ 8 := by
  unfold isNm at h
  rw [Bool.and_eq_true, Bool.and_eq_true] at h
  exact of_decide_eq_true h.2.1
theorem isNm_st {s : Str} (h : isNm s = true) : s ≠ "street" := by
  unfold isNm at h
  rw [Bool.and_eq_true] at h
  intro e
  rw [decide_eq_true e] at h
  cases h.1
theorem letters_eq : ("abcdefghijklmnopqrstuvwxyz" : Str).cps.toList = List.range' 97 26 := by decide +kernel
theorem lods_eq : ("abcdefghijklmnopqrstuvwxyz0123456789" : Str).cps.toList = List.range' 97 26 ++ List.range' 48 10 := by decide +kernel
theorem in_letters (c : Nat) : decide (c ∈ ("abcdefghijklmnopqrstuvwxyz" : Str).cps.toList) = ltr c := by
  rw [letters_eq]
  unfold ltr
  exact decide_eq_decide.mpr (by rw [List.mem_range'_1]; omega)
theorem in_lods (c : Nat) : decide (c ∈ ("abcdefghijklmnopqrstuvwxyz0123456789" : Str).cps.toList) = lod c := by
  rw [lods_eq]
  unfold lod ltr
  rw [← Bool.decide_or]
  exact decide_eq_decide.mpr (by rw [List.mem_append, List.mem_range'_1, List.mem_range'_1]; omega)
def spIsName : Sp := fun vs H Q _ => ∃ s : Str, vs = [.str s] ∧ s.length ≤ 10000 ∧ ∀ H', Ex H H' → Q (.bl (isNm s)) H'
def spNewName : Sp := fun vs H Q _ => ∃ (s : Str) (d : Addr) (kvs : List (Key × V)), vs = [.str s, .ref d] ∧ isNm s = true ∧ H d = some (.dK kvs) ∧ valV kvs (Sum.inr s) = none ∧ ∀ H', Ex H H' → Q .non H'
def spNumber : Sp := fun vs H Q _ => ∃ n lo hi : Int, vs = [.int n, .int lo, .int hi] ∧ lo ≤ n ∧ n ≤ hi ∧ Q .non H
def spCount : Sp := fun vs H Q _ => ∃ n hi : Int, vs = [.int n, .int hi] ∧ n ≤ hi ∧ Q .non H
abbrev N_is_name : List Str := ["text", "sign"]
theorem sc_is_name : FnScope N_is_name ["text"] (defScope s_is_name) := ⟨rfl, rfl, rfl, by decide +kernel, rfl, by decide +kernel, by decide +kernel⟩
abbrev N_check_new_name : List Str := ["name", "taken"]
theorem sc_check_new_name : FnScope N_check_new_name ["name", "taken"] (defScope s_check_new_name) := ⟨rfl, rfl, rfl, by decide +kernel, rfl, by decide +kernel, by decide +kernel⟩
abbrev N_check_number : List Str := ["number", "least", "most"]
theorem sc_check_number : FnScope N_check_number ["number", "least", "most"] (defScope s_check_number) := ⟨rfl, rfl, rfl, by decide +kernel, rfl, by decide +kernel, by decide +kernel⟩
abbrev N_check_count : List Str := ["count", "most"]
theorem sc_check_count : FnScope N_check_count ["count", "most"] (defScope s_check_count) := ⟨rfl, rfl, rfl, by decide +kernel, rfl, by decide +kernel, by decide +kernel⟩
section
variable {P : Program} {w : World} {K : PySem.W.Frag} {mg : Str → Option Value} {base : Heap}
theorem ok_is_name (T : Txt K mg) : Cal P w K mg base 1 "is_name" spIsName := by
  obtain ⟨fd, F⟩ := T.d_is_name
  refine cal_of F (fn_ok0 F sc_is_name (fun vs H Q E h => ?_) (fun cdv A outer s H vs Q E hr h => ?_)) T.m_is_name fun _ _ _ _ _ _ us hl => match us, hl with | [_], _ => rfl
  · obtain ⟨s, rfl, _⟩ := h
    rfl
  · obtain ⟨z, rfl, hz, q⟩ := h
    have hz2 : z.length ≤ sizeLine := by rw [sizeLine_eq]; omega
    refine ⟨_, pss_cons (ps_if (PW.pt (pw_or (pt_cmpR op_eq (pv 0) (pe_gc rfl T.g_STREET) (nomark _)) (pw_or1 (pt_not (pt_chain op_le op_le (pe_int) (pe_callB (call_lenK (K := K)) (by rfl) T.n_len T.b_len (pa_cons (pv 0) (pa_nil))) (pe_gc rfl T.g_LONGEST_NAME))))))
      (pss_one (ps_ret (pe_bl)))
      (pss_nil))
      (pss_one (ps_ret (pe_and (pe_cmpR op_in_sign (pe_ix ix_str (pv 0) (pe_int) (fun _ _ => rfl)) (pe_gc rfl T.g_LETTERS) rfl) (pe_one (pe_callB (cr_allK (K := K) rfl) (by rfl) T.n_all T.b_all (pa_cons (pe_lc (own := [("sign", 1)]) rfl sc_is_name.nd (pi_str (pv 0)) (blkOk_by (N := N_is_name) (sc := defScope s_is_name) (by decide +kernel)) (fun _ _ _ _ _ => pg_name (i := 1) sc_is_name.nd rfl (Or.inl rfl)) (fun _ _ _ _ _ => pts_nil) (fun _ _ _ _ _ => pe_cmpR op_in_sign (pv 1) (pe_gc rfl T.g_LETTERS_AND_DIGITS) rfl)) (pa_nil))))))), ?_⟩
    -- text == STREET or not 1 <= len(text) <= 8
    refine ⟨_, rfl, rfl, _, rfl, ?_⟩
    refine ite2 (fun c0 => ?_) (fun c0 => ?_)
    · have e1 : z = "street" := V.str.inj (of_decide_eq_true c0)
      subst e1
      refine iteT ?_
      exact q H (Evl.Ex.refl _)
    · have e1 : ¬ z = "street" := fun h => c0 (decide_eq_true (congrArg V.str h))
      refine ⟨_, rfl, _, z.length, rfl, ⟨hz2, rfl⟩, _, _, rfl, rfl, _, rfl, ?_⟩
      have nm : isNm z = (decide (1 ≤ z.length ∧ z.length ≤ 8) && ((z.cps.toList.head?.any ltr) && z.cps.toList.all lod)) := by
        unfold isNm
        rw [decide_eq_false e1]
        rfl
      have no : ¬ (1 ≤ z.length ∧ z.length ≤ 8) → isNm z = false := fun h => by rw [nm, decide_eq_false h]; rfl
      refine ite2 (fun c1 => ?_) (fun c1 => ?_)
      · have c1 : 1 ≤ z.length := by have := of_decide_eq_true c1; omega
        refine ⟨_, _, rfl, rfl, _, rfl, ?_⟩
        generalize hd8 : decide ((z.length : Int) ≤ 8) = d8
        show (if (!d8) = true then _ else _)
        refine ite2 (fun c2 => ?_) (fun c2 => ?_)
        · have h8 : ¬ z.length ≤ 8 := by
            intro h8
            have d : d8 = true := by rw [← hd8]; exact decide_eq_true (by omega)
            rw [d] at c2
            cases c2
          have := no fun h => h8 h.2
          rw [this] at q
          exact q H (Evl.Ex.refl _)
        · have h8 : z.length ≤ 8 := by
            apply Classical.byContradiction
            intro h8
            have d : d8 = false := by rw [← hd8]; exact decide_eq_false (by omega)
            rw [d] at c2
            exact c2 rfl
          -- text[0] in LETTERS and all(..)
          rw [decide_eq_true ⟨c1, h8⟩, Bool.true_and] at nm
          cases hc : z.cps.toList with
          | nil =>
            have : z.length = 0 := by show z.cps.size = 0; rw [← Array.length_toList, hc]; rfl
            omega
          | cons c rest =>
            refine ⟨_, rfl, z, 0, c, rfl, rfl, hz2, atI_nat (j := 0) (by rw [hc]; rfl), c, _, rfl, rfl, _, rfl, ?_⟩
            rw [in_letters]
            rw [hc] at nm
            refine ite2 (fun cl => ?_) (fun cl => ?_)
            · refine Ev.run (ev_all ((List.range z.cps.toList.length).map fun i => (z.cps.toList[i]?.map lod).getD false) (EvP.imp (ev_lcV (fun _ => true) (fun i => .bl ((z.cps.toList[i]?.map lod).getD false)) (src_str (Evl.ev_var rfl)) (by rw [Array.length_toList]; exact Nat.le_trans hz (by decide)) fun i x H1 e hi ⟨c', y1, y2⟩ => ⟨_, evg_name, by subst y2; rfl, et_yes, fun _ H2 e2 Q2 k => ?_⟩) fun v H2 e2 ⟨D, hv, hD, hH2⟩ => ⟨D, hv, hD, by rw [hH2, idx_all, List.map_map]; rfl⟩)) fun H2 e2 => ?_
              · subst y2
                refine ⟨_, rfl, c', _, rfl, rfl, ?_⟩
                rw [in_lods]
                rw [y1] at k
                exact k _ (Evl.Ex.refl _)
              · rw [rg_map]
                rw [List.all_map, hc]
                have e3 : isNm z = ((c :: rest).all fun x => lod x) := by
                  rw [nm]
                  show (ltr c && _) = _
                  rw [cl, Bool.true_and]
                rw [show ((c :: rest).all (id ∘ lod)) = isNm z from e3.symm]
                exact q _ e2
            · have e3 : isNm z = false := by
                rw [nm]
                show (ltr c && _) = _
                rw [Bool.eq_false_iff.mpr cl]
                rfl
              rw [e3] at q
              exact q H (Evl.Ex.refl _)
      · have h1 : ¬ 1 ≤ z.length := by
          intro h1
          rw [decide_eq_true (show (1 : Int) ≤ ((z.length : Nat) : Int) by omega)] at c1
          exact c1 rfl
        have := no fun h => h1 h.1
        rw [this] at q
        refine ⟨_, rfl, ?_⟩
        exact q H (Evl.Ex.refl _)
theorem ok_new_name (T : Txt K mg) : Cal P w K mg base 2 "check_new_name" spNewName := by
  have C_is_name := ok_is_name (P := P) (w := w) (base := base) T
  obtain ⟨fd, F⟩ := T.d_check_new_name
  refine cal_of F (fn_ok0 F sc_check_new_name (fun vs H Q E h => ?_) (fun cdv A outer s H vs Q E hr h => ?_)) T.m_check_new_name fun _ _ _ _ _ _ us hl => match us, hl with | [_, _], _ => rfl
  · obtain ⟨s, d, kvs, rfl, _⟩ := h
    rfl
  · obtain ⟨z, d, kvs, rfl, hz, hd, hv, q⟩ := h
    have hu := hu_of hr
    have hl := isNm_len hz
    refine ⟨_, pss_cons (ps_if (pt_not (pt_val (pe_cal C_is_name hr (by decide) rfl (pa_cons (pv 0) (pa_nil)))))
      (pss_one (ps_never))
      (pss_nil))
      (pss_one (ps_if (pt_cmp (pc_din hu (pv 0) (pv 1)))
      (pss_one (ps_never))
      (pss_nil))), ?_⟩
    refine ⟨_, rfl, z, rfl, by omega, fun H' e => ⟨_, rfl, ?_⟩⟩
    rw [hz]
    refine iteF ?_
    refine ⟨_, rfl, _, rfl, d, _, rfl, DGet.k (k := Sum.inr z) (e _ _ hd), _, rfl, ?_⟩
    rw [hv]
    refine iteF ?_
    exact q H' e
theorem ok_number (T : Txt K mg) : Cal P w K mg base 1 "check_number" spNumber := by
  obtain ⟨fd, F⟩ := T.d_check_number
  refine cal_of F (fn_ok0 F sc_check_number (fun vs H Q E h => ?_) (fun cdv A outer s H vs Q E hr h => ?_)) T.m_check_number fun _ _ _ _ _ _ us hl => match us, hl with | [_, _, _], _ => rfl
  · obtain ⟨n, lo, hi, rfl, _⟩ := h
    rfl
  · obtain ⟨n, lo, hi, rfl, h1, h2, q⟩ := h
    refine ⟨_, pss_one (ps_if (pt_not (pt_chain op_le op_le (pv 1) (pv 0) (pv 2)))
      (pss_one (ps_never))
      (pss_nil)), ?_⟩
    refine ⟨_, rfl, _, rfl, _, _, rfl, rfl, _, rfl, ?_⟩
    rw [decide_eq_true h1]
    refine iteT ⟨_, rfl, _, _, rfl, rfl, _, rfl, ?_⟩
    rw [decide_eq_true h2]
    exact iteF q
theorem ok_count (T : Txt K mg) : Cal P w K mg base 1 "check_count" spCount := by
  obtain ⟨fd, F⟩ := T.d_check_count
  refine cal_of F (fn_ok0 F sc_check_count (fun vs H Q E h => ?_) (fun cdv A outer s H vs Q E hr h => ?_)) T.m_check_count fun _ _ _ _ _ _ us hl => match us, hl with | [_, _], _ => rfl
  · obtain ⟨n, hi, rfl, _⟩ := h
    rfl
  · obtain ⟨n, hi, rfl, h1, q⟩ := h
    refine ⟨_, pss_one (ps_if (pt_cmpR op_gt (pv 0) (pv 1) (nomark _))
      (pss_one (ps_never))
      (pss_nil)), ?_⟩
    refine ⟨_, rfl, _, rfl, _, _, rfl, rfl, _, rfl, ?_⟩
    rw [decide_eq_false (by omega)]
    exact iteF q
end
end Rk

namespace Rk
open PySem PySem.Spec PyProof.Rows L2 He Rb C8 SX
/-! ### texts of one sign, repeated -/
def rMulS : R2 := fun x y H Q => ∃ (c : Nat) (n : Int), x = .str ⟨#[c]⟩ ∧ y = .int n ∧ 0 ≤ n ∧ n ≤ 1000 ∧ Q (.str (S (List.replicate n.toNat c))) H
theorem fold_rep (c : Nat) : ∀ (k : Nat) (acc : Array Nat), ((List.replicate k (#[c] : Array Nat)).foldl (· ++ ·) acc).toList = acc.toList ++ List.replicate k c
  | 0, acc => by simp
  | k + 1, acc => by
    rw [List.replicate_succ, List.foldl_cons, fold_rep c k, List.replicate_succ]
    simp
theorem op_mulS {X : Cx} : OpR X (binaryOp .Mult) rMulS := by
  intro pins s σ H x y v u Q I rx ry h
  obtain ⟨c, n, rfl, rfl, h0, h1, q⟩ := h
  obtain ⟨t, rfl⟩ := rx
  obtain ⟨t', rfl⟩ := ry
  have hl : (⟨#[c]⟩ : Str).length = 1 := rfl
  refine PySem.P.mul_str (by simp; omega) (fun _ _ => ?_) (fun _ _ => ?_) ?_
  · rw [hl]
    have : (1 : Int) ≤ (2 ^ 63 - 1) / n ∨ ¬ 1 ≤ n := by
      by_cases hn : 1 ≤ n
      · exact .inl ((Int.le_ediv_iff_mul_le (by omega)).mpr (by omega))
      · exact .inr hn
    rcases this with h | h
    · show ¬ (((1 : Nat) : Int) > _)
      omega
    · have : n = 0 := by omega
      omega
  · rw [hl, Nat.one_mul]
    unfold Builtin.Str.tooLong
    rw [sizeLine_eq]
    simp
    omega
  · by_cases hn : n < 1
    · rw [if_pos hn]
      have e : n = 0 := by omega
      subst e
      exact ⟨by rw [sizeLine_eq]; decide, ⟨.str Str.empty, H, I.tok _, ⟨_, rfl⟩, q⟩⟩
    · rw [if_neg hn]
      by_cases h2 : (n == 1 || (⟨#[c]⟩ : Str).length == 0) = true
      · rw [if_pos h2]
        have e : n = 1 := by
          rw [hl] at h2
          simpa using h2
        subst e
        exact ⟨.str ⟨#[c]⟩, H, I, ⟨_, rfl⟩, q⟩
      · rw [if_neg h2]
        have e : (⟨(List.replicate n.toNat (⟨#[c]⟩ : Str).cps).foldl (· ++ ·) #[]⟩ : Str) = S (List.replicate n.toNat c) := by
          show (⟨_⟩ : Str) = ⟨_⟩
          congr 1
          apply Array.toList_inj.mp
          rw [fold_rep]
          simp
        rw [e]
        exact ⟨by show (S (List.replicate n.toNat c)).length ≤ _; rw [S_len, List.length_replicate, sizeLine_eq]; omega, ⟨.str (S (List.replicate n.toNat c)), H, I.tok _, ⟨_, rfl⟩, q⟩⟩
end Rk

namespace Rk
open PySem PySem.Spec PyProof.Rows L2 He Rb C8 SX
/-! ### the names that are drawn -/
def stemsL : List Str := ["a", "north", "b2", "m", "kay9", "zz", "p10", "p9", "quay7", "b", "a1", "x", "lot", "w", "r12345", "c3", "y", "r1", "hill", "s", "d", "longname", "e5", "g"]
theorem stems_nm : ∀ i : Fin 24, ∃ s, stemsL[i.val]? = some s ∧ isNm s = true := by decide +kernel
theorem stems_inj : ∀ i j : Fin 24, stemsL[i.val]? = stemsL[j.val]? → i = j := by decide +kernel
def sgn (k : Nat) : Nat := if k < 10 then 48 + k else 87 + k
theorem signs_at : ∀ k : Fin 36, ("0123456789abcdefghijklmnopqrstuvwxyz" : Str).cps.toList[k.val]? = some (sgn k.val) := by decide +kernel
theorem sgn_inj {a b : Nat} (ha : a < 36) (hb : b < 36) (h : sgn a = sgn b) : a = b := by
  unfold sgn at h
  split at h <;> split at h <;> omega
theorem sgn_lod {a : Nat} (ha : a < 36) : lod (sgn a) = true := by
  unfold sgn lod ltr
  split
  · rw [decide_eq_true (p := 48 ≤ 48 + a ∧ 48 + a ≤ 57) (by omega), Bool.or_true]
  · rw [decide_eq_true (p := 97 ≤ 87 + a ∧ 87 + a ≤ 122) (by omega), Bool.true_or]
theorem sgn_ltr {a : Nat} (ha : a < 36) (h : 10 ≤ a) : ltr (sgn a) = true := by
  unfold sgn ltr
  rw [if_neg (by omega)]
  exact decide_eq_true (by omega)
theorem street_S : ("street" : Str) = S [115, 116, 114, 101, 101, 116] := by decide +kernel
theorem streetxx_S : ("streetxx" : Str) = S [115, 116, 114, 101, 101, 116, 120, 120] := by decide +kernel
theorem streetxx_nm : isNm "streetxx" = true := by decide +kernel
theorem isNm_S {c : Nat} {l : List Nat} (h1 : l.length ≤ 7) (h2 : ltr c = true) (h3 : l.all lod = true) (h4 : S (c :: l) ≠ "street") : isNm (S (c :: l)) = true := by
  unfold isNm
  rw [decide_eq_false h4, S_len, decide_eq_true (by rw [List.length_cons]; omega)]
  show ((S (c :: l)).cps.toList.head?.any ltr && (S (c :: l)).cps.toList.all lod) = true
  have e : (S (c :: l)).cps.toList = c :: l := by simp [S]
  rw [e]
  show (ltr c && (lod c && l.all lod)) = true
  have hl : lod c = true := by unfold lod; rw [h2]; rfl
  rw [h2, hl, h3]
  rfl
/-- a letter, then letters and digits -/
def Word (l : List Nat) : Prop := ∃ c r, l = c :: r ∧ ltr c = true ∧ r.all lod = true
theorem Word.snoc {l : List Nat} {d : Nat} (h : Word l) (hd : lod d = true) : Word (l ++ [d]) := by
  obtain ⟨c, r, rfl, h1, h2⟩ := h
  exact ⟨c, r ++ [d], rfl, h1, by rw [List.all_append, h2]; simp [hd]⟩
theorem Word.nm {l : List Nat} (h : Word l) (hl : l.length ≤ 8) (hn : S l ≠ "street") : isNm (S l) = true := by
  obtain ⟨c, r, rfl, h1, h2⟩ := h
  exact isNm_S (by simpa using hl) h1 h2 hn
def kk (a b c : Nat) : List Nat := List.replicate a 107 ++ [c] ++ List.replicate b 107
def cc (seed : Int) (j : Nat) : Nat := (97 + (seed + 5 * (j : Int)) % 24).toNat
theorem cc_ltr (seed : Int) (j : Nat) : 97 ≤ cc seed j ∧ cc seed j ≤ 120 := by unfold cc; omega
theorem kk_word (a b : Nat) {c : Nat} (hc : 97 ≤ c ∧ c ≤ 122) : Word (kk a b c) := by
  have hl : ltr c = true := decide_eq_true hc
  have hlc : lod c = true := by unfold lod; rw [hl]; rfl
  have hk : (List.replicate b 107).all lod = true := List.all_eq_true.mpr fun x hx => by rw [List.eq_of_mem_replicate hx]; rfl
  cases a with
  | zero => exact ⟨c, List.replicate b 107, by simp [kk], hl, hk⟩
  | succ a =>
    have hk2 : (List.replicate a 107).all lod = true := List.all_eq_true.mpr fun x hx => by rw [List.eq_of_mem_replicate hx]; rfl
    exact ⟨107, List.replicate a 107 ++ [c] ++ List.replicate b 107, by simp [kk, List.replicate_succ], rfl, by rw [List.all_append, List.all_append, hk, hk2]; simp [hlc]⟩
theorem kk_ne (a b : Nat) {c : Nat} (h : 1 ≤ a + b) : S (kk a b c) ≠ "street" := by
  rw [street_S]
  intro e
  have e := S_inj e
  cases a with
  | zero =>
    cases b with
    | zero => omega
    | succ b => simp [kk, List.replicate_succ] at e
  | succ a => simp [kk, List.replicate_succ] at e
theorem kk_inj {a b c d : Nat} (h : S (kk a b c) = S (kk a b d)) : c = d := by
  have e := S_inj h
  simpa [kk] using e
/-- what the j-th name is like -/
def Form (way seed : Int) (j : Nat) (s : Str) : Prop :=
  (way = 0 ∧ stemsL[((seed + 7 * (j : Int)) % 24).toNat]? = some s) ∨
  (way = 1 ∧ ∃ b, ((seed / 7) % (2 + seed % 7)).toNat + b = (1 + seed % 7).toNat ∧ s = S (kk ((seed / 7) % (2 + seed % 7)).toNat b (cc seed j))) ∨
  (way = 2 ∧ ((∃ l, s = S (l ++ [sgn ((seed + (j : Int)) % 36).toNat]) ∧ Word l ∧ l.length ≤ 6 ∧ s ≠ "street") ∨ (s = "streetxx" ∧ sgn ((seed + (j : Int)) % 36).toNat = 116)))
theorem Form.nm {way seed : Int} {j : Nat} {s : Str} (h : Form way seed j s) (h0 : 0 ≤ seed) : isNm s = true := by
  rcases h with ⟨_, h⟩ | ⟨_, b, hb, rfl⟩ | ⟨_, ⟨l, rfl, hw, hl, hn⟩ | ⟨rfl, _⟩⟩
  · obtain ⟨z, e, hz⟩ := stems_nm ⟨((seed + 7 * (j : Int)) % 24).toNat, by omega⟩
    rw [h] at e
    cases e
    exact hz
  · have := cc_ltr seed j
    refine (kk_word _ _ ⟨this.1, by omega⟩).nm ?_ (kk_ne _ _ (by omega))
    simp [kk]
    omega
  · exact (hw.snoc (sgn_lod (by omega))).nm (by simp; omega) hn
  · exact streetxx_nm
theorem snoc_last {l m : List Nat} {a b : Nat} (h : S (l ++ [a]) = S (m ++ [b])) : a = b := by
  have e := S_inj h
  have := congrArg List.getLast? e
  simpa using this
theorem Form.inj {way seed : Int} {i j : Nat} {s : Str} (h0 : 0 ≤ seed) (hi : i < 24) (hj : j < 24) (h : Form way seed i s) (h' : Form way seed j s) : i = j := by
  rcases h with ⟨w, h⟩ | ⟨w, b, hb, e⟩ | ⟨w, h⟩
  · rcases h' with ⟨_, h'⟩ | ⟨w', _⟩ | ⟨w', _⟩
    · have := stems_inj ⟨((seed + 7 * (i : Int)) % 24).toNat, by omega⟩ ⟨((seed + 7 * (j : Int)) % 24).toNat, by omega⟩ (h.trans h'.symm)
      have := congrArg Fin.val this
      dsimp only at this
      omega
    · omega
    · omega
  · rcases h' with ⟨w', h'⟩ | ⟨_, b', hb', e'⟩ | ⟨w', _⟩
    · omega
    · have eb : b = b' := by omega
      subst eb
      have := kk_inj (e.symm.trans e')
      unfold cc at this
      omega
    · omega
  · rcases h' with ⟨w', h'⟩ | ⟨w', _⟩ | ⟨_, h'⟩
    · omega
    · omega
    · have key : ∀ (l : List Nat) (k : Nat), S (l ++ [sgn k]) = "streetxx" → k < 36 → sgn k = 120 := fun l k e hk => by
        rw [streetxx_S] at e
        exact snoc_last (m := [115, 116, 114, 101, 101, 116, 120]) e
      have last : ∀ (l : List Nat) (k : Nat), l.length ≤ 6 → S (l ++ [sgn k]) ≠ "streetxx" := fun l k hl e => by
        rw [streetxx_S] at e
        have := congrArg List.length (S_inj e)
        simp at this
        omega
      rcases h with ⟨l, e, _, hl, _⟩ | ⟨e, t⟩
      · rcases h' with ⟨l', e', _, hl', _⟩ | ⟨e', t'⟩
        · have := snoc_last (e.symm.trans e')
          have := sgn_inj (by omega) (by omega) this
          omega
        · exact absurd (e.symm.trans e') (last _ _ hl)
      · rcases h' with ⟨l', e', _, hl', _⟩ | ⟨e', t'⟩
        · exact absurd (e'.symm.trans e) (last _ _ hl')
        · have := sgn_inj (by omega) (by omega) (t.trans t'.symm)
          omega
end Rk

namespace Rk
open PySem PySem.Spec PyProof.Rows L2 He Rb C8 SX
/-- a new list of c right names that are different, the pool drawn from; all else stands -/
def spNames : Sp := fun vs H Q _ => ∃ (p : Addr) (c : Int) (pl : List V), vs = [.ref p, .int c] ∧ H p = some (.lst pl) ∧ PoolL pl ∧ 0 ≤ c ∧ c ≤ 24 ∧
  ∀ (ss : List Str) (l : Addr) (pl' : List V) (H' : Hp), (ss.length : Int) = c → (∀ s ∈ ss, isNm s = true) → ss.Nodup → H l = none → H' l = some (.lst (ss.map V.str)) → H' p = some (.lst pl') → PoolL pl' → Fr p H H' → Q (.ref l) H'
theorem signs_atI (n : Int) (h0 : 0 ≤ n) (h1 : n < 36) : atI ("0123456789abcdefghijklmnopqrstuvwxyz" : Str).cps.toList n = some (sgn n.toNat) := by
  have e : n = ((n.toNat : Nat) : Int) := by omega
  have h := atI_nat (signs_at ⟨n.toNat, by omega⟩)
  rw [← e] at h
  exact h
abbrev N__law_names : List Str := ["pool", "count", "way", "seed", "stems", "signs", "names", "k", "name", "size", "place", "j"]
theorem sc__law_names : FnScope N__law_names ["pool", "count"] (defScope s__law_names) := ⟨rfl, rfl, rfl, by decide +kernel, rfl, by decide +kernel, by decide +kernel⟩
section
variable {P : Program} {w : World} {K : PySem.W.Frag} {mg : Str → Option Value} {base : Heap}
/-- what stands between two turns -/
structure NmW (p st nl : Addr) (c way seed : Int) (H : Hp) (i : Nat) (σ : L2.St) (H' : Hp) : Prop where
  ex : ∃ (ss : List Str) (pl : List V) (v7 v8 v9 v10 v11 : Option V), σ = [some (.ref p), some (.int c), some (.int way), some (.int seed), some (.ref st), some (.str "0123456789abcdefghijklmnopqrstuvwxyz"), some (.ref nl), v7, v8, v9, v10, v11] ∧
    H' p = some (.lst pl) ∧ PoolL pl ∧ H' st = some (.lst (stemsL.map V.str)) ∧ H' nl = some (.lst (ss.map V.str)) ∧ ss.length = i ∧ (∀ (j : Nat) (s : Str), ss[j]? = some s → Form way seed j s)
  fr : Fr p H H'
  nn : nl ≠ p ∧ nl ≠ st ∧ st ≠ p ∧ H nl = none
theorem ok_names (T : Txt K mg) : Cal P w K mg base 2 "_law_names" spNames := by
  have C__law_take := ok_take (P := P) (w := w) (base := base) T
  obtain ⟨fd, F⟩ := T.d__law_names
  refine cal_of F (fn_ok0 F sc__law_names (fun vs H Q E h => ?_) (fun cdv A outer s H vs Q E hr h => ?_)) T.m__law_names fun _ _ _ _ _ _ us hl => match us, hl with | [_, _], _ => rfl
  · obtain ⟨p, c, pl, rfl, _⟩ := h
    rfl
  · obtain ⟨p, c, pl, rfl, hp, hpl, hc0, hc1, q⟩ := h
    refine ⟨_, pss_cons (ps_set (i := 2) sc__law_names.nd rfl (Or.inl rfl) (pe_cal C__law_take hr (by decide) rfl (pa_cons (pv 0) (pa_cons (pe_int) (pa_nil)))))
      (pss_cons (ps_set (i := 3) sc__law_names.nd rfl (Or.inl rfl) (pe_cal C__law_take hr (by decide) rfl (pa_cons (pv 0) (pa_cons (pe_int) (pa_nil)))))
      (pss_cons (ps_set (i := 4) sc__law_names.nd rfl (Or.inl rfl) (pe_lst (pa_cons (pe_str) (pa_cons (pe_str) (pa_cons (pe_str) (pa_cons (pe_str) (pa_cons (pe_str) (pa_cons (pe_str) (pa_cons (pe_str) (pa_cons (pe_str) (pa_cons (pe_str) (pa_cons (pe_str) (pa_cons (pe_str) (pa_cons (pe_str) (pa_nil)))))))))))))))
      (pss_cons (ps_set (i := 4) sc__law_names.nd rfl (Or.inl rfl) (pe_op op_cat (pv 4) (pe_lst (pa_cons (pe_str) (pa_cons (pe_str) (pa_cons (pe_str) (pa_cons (pe_str) (pa_cons (pe_str) (pa_cons (pe_str) (pa_cons (pe_str) (pa_cons (pe_str) (pa_cons (pe_str) (pa_cons (pe_str) (pa_cons (pe_str) (pa_cons (pe_str) (pa_nil))))))))))))))))
      (pss_cons (ps_set (i := 5) sc__law_names.nd rfl (Or.inl rfl) (pe_str))
      (pss_cons (ps_set (i := 6) sc__law_names.nd rfl (Or.inl rfl) (pe_lst (pa_nil)))
      (pss_cons (ps_for PassesOwn.never rfl (pi_range1 rfl T.n_range (pa_cons (pv 1) (pa_nil))) (pg_name (i := 7) sc__law_names.nd rfl (Or.inl rfl))
      (pss_cons (ps_set (i := 8) sc__law_names.nd rfl (Or.inl rfl) (pe_ix (ix_listK (K := K)) (pv 4) (pe_op op_mod (pe_op op_add (pv 3) (pe_op op_mul (pe_int) (pv 7))) (pe_int)) (fun _ _ => rfl)))
      (pss_cons (ps_if (pt_cmpR op_eq (pv 2) (pe_int) (nomark _))
      (pss_cons (ps_set (i := 9) sc__law_names.nd rfl (Or.inl rfl) (pe_op op_add (pe_int) (pe_op op_mod (pv 3) (pe_int))))
      (pss_cons (ps_set (i := 10) sc__law_names.nd rfl (Or.inl rfl) (pe_op op_mod (pe_op op_fdiv (pv 3) (pe_int)) (pv 9)))
      (pss_one (ps_set (i := 8) sc__law_names.nd rfl (Or.inl rfl) (pe_op op_add_str (pe_op op_add_str (pe_op op_mulS (pe_str) (pv 10)) (pe_ix ix_str (pv 5) (pe_op op_add (pe_int) (pe_op op_mod (pe_op op_add (pv 3) (pe_op op_mul (pe_int) (pv 7))) (pe_int))) (fun _ _ => rfl))) (pe_op op_mulS (pe_str) (pe_op op_sub (pe_op op_sub (pv 9) (pv 10)) (pe_int))))))))
      (pss_nil))
      (pss_cons (ps_if (pt_cmpR op_eq (pv 2) (pe_int) (nomark _))
      (pss_cons (ps_set (i := 8) sc__law_names.nd rfl (Or.inl rfl) (pe_ix ix_str (pv 5) (pe_op op_add (pe_int) (pe_cal C__law_take hr (by decide) rfl (pa_cons (pv 0) (pa_cons (pe_int) (pa_nil))))) (fun _ _ => rfl)))
      (pss_cons (ps_for PassesOwn.never rfl (pi_range1 rfl T.n_range (pa_cons (pe_cal C__law_take hr (by decide) rfl (pa_cons (pv 0) (pa_cons (pe_int) (pa_nil)))) (pa_nil))) (pg_name (i := 11) sc__law_names.nd rfl (Or.inl rfl))
      (pss_one (ps_set (i := 8) sc__law_names.nd rfl (Or.inl rfl) (pe_op op_add_str (pv 8) (pe_ix ix_str (pv 5) (pe_cal C__law_take hr (by decide) rfl (pa_cons (pv 0) (pa_cons (pe_int) (pa_nil)))) (fun _ _ => rfl))))))
      (pss_one (ps_set (i := 8) sc__law_names.nd rfl (Or.inl rfl) (pe_op op_add_str (pv 8) (pe_ix ix_str (pv 5) (pe_op op_mod (pe_op op_add (pv 3) (pv 7)) (pe_int)) (fun _ _ => rfl)))))))
      (pss_nil))
      (pss_cons (ps_if (pt_cmpR op_eq (pv 8) (pe_str) (nomark _))
      (pss_one (ps_set (i := 8) sc__law_names.nd rfl (Or.inl rfl) (pe_str)))
      (pss_nil))
      (pss_one (ps_expr (pe_bmK (K := K) PySem.F.plainAttrs_list PySem.F.slot_list_append PySem.F.type_list_append mt_append (pv 6) (pa_cons (pv 8) (pa_nil))))))))))
      (pss_one (ps_ret (pv 6))))))))), ?_⟩
    -- way, seed
    refine ⟨_, rfl, p, 3, pl, rfl, hp, hpl, by decide, by decide, fun way pl1 hw0 hw1 hpl1 => ?_⟩
    refine ⟨_, rfl, p, 168, pl1, rfl, upd_same, hpl1, by decide, by decide, fun seed pl2 hs0 hs1 hpl2 => ?_⟩
    rw [upd_upd]
    have f0 : Fr p H (upd H p (.lst pl2)) := Fr.upd
    have p0 : upd H p (.lst pl2) p = some (.lst pl2) := upd_same
    generalize upd H p (.lst pl2) = H1 at f0 p0
    -- stems, signs, names
    refine ⟨by rw [sizeLine_eq]; decide, fun a1 na1 => ?_⟩
    refine ⟨_, rfl, by rw [sizeLine_eq]; decide, fun a2 na2 => ⟨a1, a2, _, _, rfl, rfl, by rw [upd_ne (ne_of_none upd_same na2)]; exact upd_same, upd_same, by rw [sizeLine_eq]; decide, fun st nst => ?_⟩⟩
    refine ⟨by rw [sizeLine_eq]; decide, fun nl nnl => ?_⟩
    have n1 : nl ≠ st := fun e => by rw [e] at nnl; rw [upd_same] at nnl; cases nnl
    have n2 : H1 nl = none := Evl.fresh_back (((Evl.Ex.new na1).trans (Evl.Ex.new na2)).trans (Evl.Ex.new nst)) nnl
    have n3 : H1 st = none := Evl.fresh_back ((Evl.Ex.new na1).trans (Evl.Ex.new na2)) nst
    -- for k in range(count)
    refine ⟨_, rfl, c, rfl, by omega, by omega, for_range (lo := 0) (n := c.toNat) (NmW p st nl c way seed H) ?_ ?_ ?_⟩
    · exact ⟨⟨[], pl2, none, none, none, none, none, rfl, (((Evl.Ex.new na1).trans (Evl.Ex.new na2)).trans (Evl.Ex.new nst)).trans (Evl.Ex.new nnl) _ _ p0, hpl2, (by rw [upd_ne (ne_of_none upd_same nnl)]; exact upd_same), upd_same, rfl, fun j s h => by cases h⟩,
        f0.trans (Fr.ex ((((Evl.Ex.new na1).trans (Evl.Ex.new na2)).trans (Evl.Ex.new nst)).trans (Evl.Ex.new nnl))), (f0.free p0 n2).2, n1, (f0.free p0 n3).2, (f0.free p0 n2).1⟩
    · clear n1 n2 n3 nnl nst na2 na1 p0 f0 hpl2 hpl1
      rintro i σ H2 hi ⟨⟨ss, pl3, v7, v8, v9, v10, v11, rfl, hp3, hpl3, hst, hnl, hlen, hform⟩, fr, nn⟩
      have hi24 : i < 24 := by omega
      -- name = stems[(seed + 7 * k) % 24]
      have hk : ((0 : Int) + (i : Int)) = (i : Int) := Int.zero_add _
      rw [hk]
      obtain ⟨z0, hz0, hz0n⟩ := stems_nm ⟨((seed + 7 * (i : Int)) % 24).toNat, by omega⟩
      dsimp only at hz0
      refine ⟨_, rfl, _, rfl, _, rfl, _, _, rfl, rfl, Or.inl ⟨by decide, by decide⟩, _, _, rfl, rfl, _, _, rfl, rfl, (by show (0:Int) < 24; decide), st, _, (seed + 7 * (i : Int)) % 24, .str z0, rfl, rfl, SqL.of hst, ?_, ?_⟩
      · have e : (seed + 7 * (i : Int)) % 24 = ((((seed + 7 * (i : Int)) % 24).toNat : Nat) : Int) := by omega
        rw [e]
        exact atI_nat (by rw [List.getElem?_map]; rw [hz0]; rfl)
      -- what the turn's end asks: a name of the right form, the list as it stood
      have fin : ∀ (s : Str) (pl4 : List V) (H4 : Hp) (w7 w8 w9 w10 w11 : Option V), Form way seed i s → H4 p = some (.lst pl4) → PoolL pl4 → H4 st = some (.lst (stemsL.map V.str)) → H4 nl = some (.lst (ss.map V.str)) → Fr p H H4 →
          NmW p st nl c way seed H (i + 1) [some (.ref p), some (.int c), some (.int way), some (.int seed), some (.ref st), some (.str "0123456789abcdefghijklmnopqrstuvwxyz"), some (.ref nl), w7, w8, w9, w10, w11] (upd H4 nl (.lst (ss.map V.str ++ [.str s]))) :=
        fun s pl4 H4 w7 w8 w9 w10 w11 hs h1 h2 h3 h4 h5 => ⟨⟨ss ++ [s], pl4, w7, w8, w9, w10, w11, rfl, by rw [upd_ne nn.1.symm]; exact h1, h2, by rw [upd_ne nn.2.1.symm]; exact h3, by rw [List.map_append]; exact upd_same, by rw [List.length_append, hlen]; rfl, fun j s' hj => by
            rcases snoc_get hj with ⟨_, q⟩ | ⟨q1, q2⟩
            · exact hform j s' q
            · rw [q1, q2, hlen]; exact hs⟩, h5.new nn.2.2.2, nn⟩
      have hsl : (ss.map V.str).length < sizeLine := by rw [List.length_map, sizeLine_eq]; omega
      -- if way == 1
      refine ⟨_, rfl, rfl, _, rfl, ?_⟩
      refine ite2 (fun cw => ?_) (fun cw => ?_)
      · have w1 : way = 1 := V.int.inj (of_decide_eq_true cw)
        subst w1
        have hpl0 : 0 ≤ (seed / 7) % (2 + seed % 7) := Int.emod_nonneg _ (by omega)
        have hpl9 : (seed / 7) % (2 + seed % 7) < 2 + seed % 7 := Int.emod_lt_of_pos _ (by omega)
        have hcc := cc_ltr seed i
        have hsz : ((List.replicate (seed / 7 % (2 + seed % 7)).toNat 107).length : Nat) = (seed / 7 % (2 + seed % 7)).toNat := List.length_replicate
        -- size, place
        refine ⟨_, rfl, _, _, rfl, rfl, (by show (0:Int) < 7; decide), _, _, rfl, rfl, _, rfl, _, _, rfl, rfl, ⟨by decide, by decide⟩, _, rfl, _, _, rfl, rfl, (by show (0:Int) < 2 + seed % 7; omega), ?_⟩
        -- name
        have hix : (10 + (seed + 5 * (i : Int)) % 24) = (((10 + (seed + 5 * (i : Int)) % 24).toNat : Nat) : Int) := by omega
        have hsg : sgn (10 + (seed + 5 * (i : Int)) % 24).toNat = cc seed i := by unfold sgn cc; rw [if_neg (by omega)]; omega
        refine ⟨_, rfl, 107, (seed / 7 % (2 + seed % 7)), rfl, rfl, hpl0, by omega, _, rfl, _, rfl, _, rfl, _, _, rfl, rfl, Or.inl ⟨by decide, by decide⟩, _, _, rfl, rfl, _, _, rfl, rfl, (by show (0:Int) < 24; decide), _, _, rfl, rfl, _, _, cc seed i, rfl, rfl, by rw [sizeLine_eq]; decide, ?_, _, _, rfl, rfl, ?_, _, rfl, _, rfl, _, _, rfl, rfl, _, _, rfl, rfl, 107, _, rfl, rfl, by omega, by omega, _, _, rfl, rfl, ?_, ?_⟩
        · rw [← hsg]
          exact signs_atI _ (by omega) (by omega)
        · rw [S_len, hsz, sizeLine_eq]
          show _ + 1 ≤ _
          omega
        · rw [sizeLine_eq]
          have h1 : (S (List.replicate (seed / 7 % (2 + seed % 7)).toNat 107) ++ (⟨#[cc seed i]⟩ : Str)) = S (List.replicate (seed / 7 % (2 + seed % 7)).toNat 107 ++ [cc seed i]) := S_cat _ [cc seed i]
          rw [h1, S_len, S_len, List.length_append, List.length_replicate, List.length_replicate]
          show (seed / 7 % (2 + seed % 7)).toNat + 1 + _ ≤ _
          omega
        · have h1 : (S (List.replicate (seed / 7 % (2 + seed % 7)).toNat 107) ++ (⟨#[cc seed i]⟩ : Str) ++ S (List.replicate (2 + seed % 7 - (seed / 7 % (2 + seed % 7)) - 1).toNat 107)) = S (kk (seed / 7 % (2 + seed % 7)).toNat (2 + seed % 7 - (seed / 7 % (2 + seed % 7)) - 1).toNat (cc seed i)) := by
            rw [show (S (List.replicate (seed / 7 % (2 + seed % 7)).toNat 107) ++ (⟨#[cc seed i]⟩ : Str)) = S (List.replicate (seed / 7 % (2 + seed % 7)).toNat 107 ++ [cc seed i]) from S_cat _ [cc seed i], S_cat]
            rfl
          rw [h1]
          have hf : Form 1 seed i (S (kk (seed / 7 % (2 + seed % 7)).toNat (2 + seed % 7 - (seed / 7 % (2 + seed % 7)) - 1).toNat (cc seed i))) := .inr (.inl ⟨rfl, _, by omega, rfl⟩)
          have hne := isNm_st (hf.nm hs0)
          generalize S (kk (seed / 7 % (2 + seed % 7)).toNat (2 + seed % 7 - (seed / 7 % (2 + seed % 7)) - 1).toNat (cc seed i)) = nm at hf hne
          refine ⟨_, rfl, rfl, _, rfl, ?_⟩
          refine iteF ⟨_, rfl, rfl, _, rfl, ?_⟩
          rw [decide_eq_false fun h => hne (V.str.inj h)]
          exact iteF ⟨_, rfl, Or.inl ⟨rfl, _, SqL.of hnl⟩, _, rfl, nl, _, _, rfl, rfl, hnl, hsl, fin nm pl3 H2 _ _ _ _ _ hf hp3 hpl3 hst hnl fr⟩
      · have w1 : ¬ way = 1 := fun h => cw (decide_eq_true (congrArg V.int h))
        refine ⟨_, rfl, rfl, _, rfl, ?_⟩
        refine ite2 (fun cw2 => ?_) (fun cw2 => ?_)
        · have w2 : way = 2 := V.int.inj (of_decide_eq_true cw2)
          subst w2
          -- name = signs[10 + take(26)]
          refine ⟨_, rfl, _, rfl, p, 26, pl3, rfl, hp3, hpl3, by decide, by decide, fun d pl4 hd0 hd1 hpl4 => ?_⟩
          refine ⟨_, _, rfl, rfl, _, _, sgn (10 + d).toNat, rfl, rfl, by rw [sizeLine_eq]; decide, ?_, ?_⟩
          · exact signs_atI _ (by omega) (by omega)
          -- for j in range(take(6))
          refine ⟨_, rfl, p, 6, pl4, rfl, upd_same, hpl4, by decide, by decide, fun d6 pl5 h60 h61 hpl5 => ?_⟩
          rw [upd_upd]
          have hg1 : sgn (10 + d).toNat = 87 + (10 + d).toNat := by unfold sgn; rw [if_neg (by omega)]
          refine ⟨d6, rfl, by omega, by omega, for_range (lo := 0) (n := d6.toNat) (fun j σ H3 => ∃ (l : List Nat) (pl6 : List V) (v11 : Option V), σ = [some (.ref p), some (.int c), some (.int 2), some (.int seed), some (.ref st), some (.str "0123456789abcdefghijklmnopqrstuvwxyz"), some (.ref nl), some (.int (i : Int)), some (.str (S l)), v9, v10, v11] ∧ Word l ∧ l.length = 1 + j ∧ H3 p = some (.lst pl6) ∧ PoolL pl6 ∧ H3 st = some (.lst (stemsL.map V.str)) ∧ H3 nl = some (.lst (ss.map V.str)) ∧ Fr p H H3) ?_ ?_ ?_⟩
          · exact ⟨[sgn (10 + d).toNat], pl5, v11, rfl, ⟨_, [], rfl, sgn_ltr (by omega) (by omega), rfl⟩, rfl, upd_same, hpl5, by rw [upd_ne nn.2.2.1]; exact hst, by rw [upd_ne nn.1]; exact hnl, fr.trans Fr.upd⟩
          · rintro j σ H3 hj ⟨l, pl6, v11', rfl, hw, hl, h1, h2, h3, h4, h5⟩
            refine ⟨_, rfl, _, rfl, _, rfl, p, 36, pl6, rfl, h1, h2, by decide, by decide, fun d9 pl7 h90 h91 hpl7 => ?_⟩
            refine ⟨_, _, sgn d9.toNat, rfl, rfl, by rw [sizeLine_eq]; decide, ?_, _, _, rfl, rfl, ?_, ?_⟩
            · exact signs_atI _ (by omega) (by omega)
            · rw [S_len, sizeLine_eq]
              show _ + 1 ≤ _
              omega
            · have e : S l ++ (⟨#[sgn d9.toNat]⟩ : Str) = S (l ++ [sgn d9.toNat]) := S_cat l [_]
              rw [e]
              exact ⟨l ++ [sgn d9.toNat], pl7, _, rfl, hw.snoc (sgn_lod (by omega)), by rw [List.length_append, hl]; rfl, upd_same, hpl7, by rw [upd_ne nn.2.2.1]; exact h3, by rw [upd_ne nn.1]; exact h4, h5.trans Fr.upd⟩
          · rintro σ H3 ⟨l, pl6, v11', rfl, hw, hl, h1, h2, h3, h4, h5⟩
            -- name + signs[(seed + k) % 36]
            refine ⟨_, rfl, _, rfl, _, rfl, _, rfl, _, _, rfl, rfl, _, _, rfl, rfl, (by show (0:Int) < 36; decide), _, _, sgn ((seed + (i : Int)) % 36).toNat, rfl, rfl, by rw [sizeLine_eq]; decide, ?_, _, _, rfl, rfl, ?_, ?_⟩
            · exact signs_atI _ (by omega) (by omega)
            · rw [S_len, sizeLine_eq]
              show _ + 1 ≤ _
              omega
            · have e : S l ++ (⟨#[sgn ((seed + (i : Int)) % 36).toNat]⟩ : Str) = S (l ++ [sgn ((seed + (i : Int)) % 36).toNat]) := S_cat l [_]
              rw [e]
              refine ⟨_, rfl, rfl, _, rfl, ?_⟩
              refine ite2 (fun ct => ?_) (fun ct => ?_)
              · have e2 : S (l ++ [sgn ((seed + (i : Int)) % 36).toNat]) = "street" := V.str.inj (of_decide_eq_true ct)
                have h116 : sgn ((seed + (i : Int)) % 36).toNat = 116 := by
                  rw [street_S] at e2
                  exact snoc_last (m := [115, 116, 114, 101, 101]) e2
                exact ⟨_, rfl, Or.inl ⟨rfl, _, SqL.of h4⟩, _, rfl, nl, _, _, rfl, rfl, h4, hsl, fin "streetxx" pl6 H3 _ _ _ _ _ (.inr (.inr ⟨rfl, .inr ⟨rfl, h116⟩⟩)) h1 h2 h3 h4 h5⟩
              · have hne : S (l ++ [sgn ((seed + (i : Int)) % 36).toNat]) ≠ "street" := fun h => ct (decide_eq_true (congrArg V.str h))
                exact ⟨_, rfl, Or.inl ⟨rfl, _, SqL.of h4⟩, _, rfl, nl, _, _, rfl, rfl, h4, hsl, fin _ pl6 H3 _ _ _ _ _ (.inr (.inr ⟨rfl, .inl ⟨l, rfl, hw, by omega, hne⟩⟩)) h1 h2 h3 h4 h5⟩
        · have w2 : ¬ way = 2 := fun h => cw2 (decide_eq_true (congrArg V.int h))
          have w0 : way = 0 := by omega
          subst w0
          have hf : Form 0 seed i z0 := .inl ⟨rfl, hz0⟩
          refine ⟨_, rfl, rfl, _, rfl, ?_⟩
          rw [decide_eq_false fun h => isNm_st hz0n (V.str.inj h)]
          exact iteF ⟨_, rfl, Or.inl ⟨rfl, _, SqL.of hnl⟩, _, rfl, nl, _, _, rfl, rfl, hnl, hsl, fin z0 pl3 H2 _ _ _ _ _ hf hp3 hpl3 hst hnl fr⟩
    · rintro σ H2 ⟨⟨ss, pl3, v7, v8, v9, v10, v11, rfl, hp3, hpl3, hst, hnl, hlen, hform⟩, fr, nn⟩
      refine ⟨_, rfl, q ss nl pl3 H2 (by omega) (fun s hs => ?_) (nodup_of_inj (Form way seed) hform fun i j s hi hj h h' => h.inj hs0 (by omega) (by omega) h') nn.2.2.2 hnl hp3 hpl3 fr⟩
      obtain ⟨j, hj⟩ := List.mem_iff_getElem?.mp hs
      exact (hform j s hj).nm hs0
end
end Rk

namespace Rk
open PySem PySem.Spec PyProof.Rows L2 He Rb C8 SX
/-! ### a name that is not used -/
theorem pigeon {α : Type} [DecidableEq α] : ∀ {l m : List α}, l.Nodup → (∀ x ∈ l, x ∈ m) → l.length ≤ m.length
  | [], _, _, _ => Nat.zero_le _
  | x :: l, m, hn, h => by
    have hx := h x List.mem_cons_self
    have hn2 := List.nodup_cons.mp hn
    have ih := pigeon (l := l) (m := m.erase x) hn2.2 fun y hy => (List.mem_erase_of_ne (fun e => hn2.1 (by rw [← e]; exact hy))).mpr (h y (List.mem_cons_of_mem _ hy))
    rw [List.length_erase_of_mem hx] at ih
    have : 0 < m.length := List.length_pos_of_mem hx
    rw [List.length_cons]
    omega
def frn (k : Nat) : Str := "n" ++ Str.ofString (toString (k : Int))
theorem frn_nm : ∀ k : Fin 60, isNm (frn k.val) = true := by decide +kernel
theorem frn_inj : ∀ i j : Fin 60, frn i.val = frn j.val → i = j := by decide +kernel
theorem frn_len : ∀ k : Fin 60, (Str.ofString (toString (k.val : Int))).length ≤ 5 := by decide +kernel
theorem inV_str (s : Str) (ss : List Str) : inV (.str s) (ss.map V.str) = decide (s ∈ ss) := by
  unfold inV
  rw [List.any_map, Bool.eq_iff_iff, List.any_eq_true, decide_eq_true_iff]
  constructor
  · rintro ⟨x, hx, e⟩
    have e : (x == s) = true := e
    rw [beq_iff_eq] at e
    exact e ▸ hx
  · intro h
    exact ⟨s, h, by show (s == s) = true; simp⟩
theorem flat_strs (ss : List Str) : (ss.map V.str).all flatV = true := by
  rw [List.all_map]
  exact List.all_eq_true.mpr fun _ _ => rfl
def spFresh (K : PySem.W.Frag) : Sp := fun vs H Q _ => ∃ (a : Addr) (us : List Str), vs = [.ref a] ∧ SqL K H a (us.map V.str) ∧ us.length < 60 ∧ ∀ (s : Str) (H' : Hp), isNm s = true → s ∉ us → Ex H H' → Q (.str s) H'
abbrev N__law_fresh : List Str := ["used", "names", "spare", "k", "name"]
theorem sc__law_fresh : FnScope N__law_fresh ["used"] (defScope s__law_fresh) := ⟨rfl, rfl, rfl, by decide +kernel, rfl, by decide +kernel, by decide +kernel⟩
abbrev N__law_any_names : List Str := ["pool", "count", "signs", "names", "k", "name", "j"]
theorem sc__law_any_names : FnScope N__law_any_names ["pool", "count"] (defScope s__law_any_names) := ⟨rfl, rfl, rfl, by decide +kernel, rfl, by decide +kernel, by decide +kernel⟩
section
variable {P : Program} {w : World} {K : PySem.W.Frag} {mg : Str → Option Value} {base : Heap}
theorem ok_fresh (T : Txt K mg) : Cal P w K mg base 1 "_law_fresh" (spFresh K) := by
  obtain ⟨fd, F⟩ := T.d__law_fresh
  refine cal_of F (fn_ok0 F sc__law_fresh (fun vs H Q E h => ?_) (fun cdv A outer s H vs Q E hr h => ?_)) T.m__law_fresh fun _ _ _ _ _ _ us hl => match us, hl with | [_], _ => rfl
  · obtain ⟨a, us, rfl, _⟩ := h
    rfl
  · obtain ⟨a, us, rfl, hS, hl, q⟩ := h
    refine ⟨_, pss_cons (ps_setLc (i := 1) (own := [("k", 3)]) rfl sc__law_fresh.nd rfl rfl (sw_true rfl rfl rfl (by decide +kernel)) (pi_range1 rfl T.n_range (pa_cons (pe_int) (pa_nil))) (blkOk_by (N := N__law_fresh) (sc := defScope s__law_fresh) (by decide +kernel)) (fun _ _ _ _ _ => pg_name (i := 3) sc__law_fresh.nd rfl (Or.inl rfl)) (fun _ _ _ _ _ => pts_nil) (fun _ _ _ _ _ => pe_op op_add_str (pe_str) (pe_callTy call_str_int (by rfl) T.n_str T.b_str (pa_cons (pv 3) (pa_nil)))))
      (pss_cons (ps_setLc (i := 2) (own := [("name", 4)]) rfl sc__law_fresh.nd rfl rfl (sw_true rfl rfl rfl (by decide +kernel)) (pi_listK (K := K) (pv 1)) (blkOk_by (N := N__law_fresh) (sc := defScope s__law_fresh) (by decide +kernel)) (fun _ _ _ _ _ => pg_name (i := 4) sc__law_fresh.nd rfl (Or.inl rfl)) (fun _ _ _ _ _ => pts_one (pt_cmpR (op_notIn_seqK (K := K)) (pv 4) (pv 0) (by with_unfolding_all rfl))) (fun _ _ _ _ _ => pv 4))
      (pss_one (ps_ret (pe_ix (ix_listK (K := K)) (pv 2) (pe_int) (fun _ _ => rfl))))), ?_⟩
    refine q_asgP (ev_lcV (fun _ => true) (fun i => .str (frn i)) (src_r1 (Evl.ea_cons Evl.ev_c Evl.ea_nil) (by decide) (by decide)) (by decide) fun i x H1 e hi y => ⟨_, evg_name, by subst y; rfl, et_yes, fun _ H2 e2 Q2 k => ?_⟩) fun v H1 e1 ⟨D, hv, hD, hH1⟩ => ?_
    · subst y
      have hi : i < 60 := hi
      refine ⟨_, rfl, _, rfl, by show (i : Int).natAbs.log2 < 1920; exact Nat.lt_of_le_of_lt (Nat.log2_le_self _) (by omega), "n", _, rfl, rfl, ?_, k _ (Evl.Ex.refl _)⟩
      have := frn_len ⟨i, hi⟩
      dsimp only at this
      rw [sizeLine_eq]
      show 1 + _ ≤ _
      omega
    · subst hv
      have eL : (Idx (60 : Int).toNat fun _ => true).map (fun i => V.str (frn i)) = ((List.range 60).map frn).map V.str := by rw [idx_all, List.map_map]; rfl
      rw [eL] at hH1
      refine q_asgP (ev_lcL (p := fun s => decide (s ∉ us)) (g := V.str) ((List.range 60).map frn) V.str (Evl.ev_var rfl) (SqL.of hH1) (by simp) (fun x => rfl) (fun x hx H2 e2 H3 e3 Q2 k => ?_) fun x hx hp H2 e2 => Evl.ev_var rfl) fun v H2 e2 ⟨D2, hv, hD2, hH2⟩ => ?_
      · refine ⟨_, rfl, _, rfl, a, _, rfl, Or.inl (Evl.ex_l (e1.trans (e2.trans e3)) hS), rfl, flat_strs us, _, rfl, ?_⟩
        have := k H3 (Evl.Ex.refl _)
        rw [show decide (x ∉ us) = !inV (.str x) (us.map V.str) by rw [inV_str]; simp] at this
        exact this
      · subst hv
        cases hfl : ((List.range 60).map frn).filter (fun s => decide (s ∉ us)) with
        | nil =>
          have hsub : ∀ x ∈ (List.range 60).map frn, x ∈ us := fun x hx => by
            have := List.filter_eq_nil_iff.mp hfl x hx
            simpa using this
          have hnd : ((List.range 60).map frn).Nodup := nodup_of_inj (fun i s => i < 60 ∧ s = frn i) (fun i s h => by
            rw [List.getElem?_map] at h
            by_cases hi : i < 60
            · rw [List.getElem?_range hi] at h; exact ⟨hi, (Option.some.inj h).symm⟩
            · rw [List.getElem?_eq_none (by rw [List.length_range]; omega)] at h; cases h) fun i j s _ _ ⟨h1, h2⟩ ⟨h3, h4⟩ => by
              have := frn_inj ⟨i, h1⟩ ⟨j, h3⟩ (h2.symm.trans h4)
              exact congrArg Fin.val this
          have := pigeon hnd hsub
          simp at this
          omega
        | cons s rest =>
          rw [hfl] at hH2
          have hs : s ∈ ((List.range 60).map frn).filter (fun s => decide (s ∉ us)) := by rw [hfl]; exact List.mem_cons_self
          obtain ⟨hs1, hs2⟩ := List.mem_filter.mp hs
          obtain ⟨k, hk, rfl⟩ := List.mem_map.mp hs1
          refine ⟨_, rfl, D2, _, 0, .str (frn k), rfl, rfl, SqL.of hH2, atI_nat (j := 0) rfl, ?_⟩
          exact q (frn k) H2 (frn_nm ⟨k, List.mem_range.mp hk⟩) (of_decide_eq_true hs2) (e1.trans e2)
/-- what stands between two turns -/
structure AnW (p nl : Addr) (c : Int) (H : Hp) (i : Nat) (σ : L2.St) (H' : Hp) : Prop where
  ex : ∃ (ss : List Str) (pl : List V) (v4 v5 v6 : Option V), σ = [some (.ref p), some (.int c), some (.str "abcdefghijklmnopqrstuvwxyz0123456789"), some (.ref nl), v4, v5, v6] ∧
    H' p = some (.lst pl) ∧ PoolL pl ∧ H' nl = some (.lst (ss.map V.str)) ∧ ss.length = i ∧ (∀ s ∈ ss, isNm s = true) ∧ ss.Nodup
  fr : Fr p H H'
  nn : nl ≠ p ∧ H nl = none
theorem alsigns_atI (n : Int) (h0 : 0 ≤ n) (h1 : n < 36) : ∃ c, atI ("abcdefghijklmnopqrstuvwxyz0123456789" : Str).cps.toList n = some c ∧ lod c = true ∧ (n < 26 → ltr c = true) := by
  have e : n = ((n.toNat : Nat) : Int) := by omega
  have h : ∀ k : Fin 36, ∃ c, ("abcdefghijklmnopqrstuvwxyz0123456789" : Str).cps.toList[k.val]? = some c ∧ lod c = true ∧ (k.val < 26 → ltr c = true) := by decide +kernel
  obtain ⟨c, h1, h2, h3⟩ := h ⟨n.toNat, by omega⟩
  have h4 := atI_nat h1
  dsimp only at h4 h3
  rw [← e] at h4
  exact ⟨c, h4, h2, fun h => h3 (by omega)⟩
theorem ok_any_names (T : Txt K mg) : Cal P w K mg base 2 "_law_any_names" spNames := by
  have C__law_take := ok_take (P := P) (w := w) (base := base) T
  have C__law_fresh := ok_fresh (P := P) (w := w) (base := base) T
  obtain ⟨fd, F⟩ := T.d__law_any_names
  refine cal_of F (fn_ok0 F sc__law_any_names (fun vs H Q E h => ?_) (fun cdv A outer s H vs Q E hr h => ?_)) T.m__law_any_names fun _ _ _ _ _ _ us hl => match us, hl with | [_, _], _ => rfl
  · obtain ⟨p, c, pl, rfl, _⟩ := h
    rfl
  · obtain ⟨p, c, pl, rfl, hp, hpl, hc0, hc1, q⟩ := h
    refine ⟨_, pss_cons (ps_set (i := 2) sc__law_any_names.nd rfl (Or.inl rfl) (pe_str))
      (pss_cons (ps_set (i := 3) sc__law_any_names.nd rfl (Or.inl rfl) (pe_lst (pa_nil)))
      (pss_cons (ps_for PassesOwn.never rfl (pi_range1 rfl T.n_range (pa_cons (pv 1) (pa_nil))) (pg_name (i := 4) sc__law_any_names.nd rfl (Or.inl rfl))
      (pss_cons (ps_set (i := 5) sc__law_any_names.nd rfl (Or.inl rfl) (pe_ix ix_str (pv 2) (pe_cal C__law_take hr (by decide) rfl (pa_cons (pv 0) (pa_cons (pe_int) (pa_nil)))) (fun _ _ => rfl)))
      (pss_cons (ps_for PassesOwn.never rfl (pi_range1 rfl T.n_range (pa_cons (pe_cal C__law_take hr (by decide) rfl (pa_cons (pv 0) (pa_cons (pe_int) (pa_nil)))) (pa_nil))) (pg_name (i := 6) sc__law_any_names.nd rfl (Or.inl rfl))
      (pss_one (ps_set (i := 5) sc__law_any_names.nd rfl (Or.inl rfl) (pe_op op_add_str (pv 5) (pe_ix ix_str (pv 2) (pe_cal C__law_take hr (by decide) rfl (pa_cons (pv 0) (pa_cons (pe_int) (pa_nil)))) (fun _ _ => rfl))))))
      (pss_cons (ps_if (PW.pt (pw_or (pt_cmpR op_eq (pv 5) (pe_str) (nomark _)) (pw_or1 (pt_cmpR (op_in_seqK (K := K)) (pv 5) (pv 3) (by with_unfolding_all rfl)))))
      (pss_one (ps_set (i := 5) sc__law_any_names.nd rfl (Or.inl rfl) (pe_cal C__law_fresh hr (by decide) rfl (pa_cons (pv 3) (pa_nil)))))
      (pss_nil))
      (pss_one (ps_expr (pe_bmK (K := K) PySem.F.plainAttrs_list PySem.F.slot_list_append PySem.F.type_list_append mt_append (pv 3) (pa_cons (pv 5) (pa_nil)))))))))
      (pss_one (ps_ret (pv 3))))), ?_⟩
    refine ⟨by rw [sizeLine_eq]; decide, fun nl nnl => ?_⟩
    refine ⟨_, rfl, c, rfl, by omega, by omega, for_range (lo := 0) (n := c.toNat) (AnW p nl c H) ?_ ?_ ?_⟩
    · exact ⟨⟨[], pl, none, none, none, rfl, by rw [upd_ne (ne_of_none hp nnl)]; exact hp, hpl, upd_same, rfl, fun s h => (by cases h), List.nodup_nil⟩, Fr.ex (Evl.Ex.new nnl), (ne_of_none hp nnl).symm, nnl⟩
    · rintro i σ H2 hi ⟨⟨ss, pl3, v4, v5, v6, rfl, hp3, hpl3, hnl, hlen, hnm, hnd⟩, fr, nn⟩
      have hsl : (ss.map V.str).length < sizeLine := by rw [List.length_map, sizeLine_eq]; omega
      refine ⟨_, rfl, _, rfl, p, 26, pl3, rfl, hp3, hpl3, by decide, by decide, fun d pl4 hd0 hd1 hpl4 => ?_⟩
      obtain ⟨c1, hc1', hcl, hcr⟩ := alsigns_atI d hd0 (by omega)
      refine ⟨_, _, c1, rfl, rfl, by rw [sizeLine_eq]; decide, hc1', ?_⟩
      refine ⟨_, rfl, p, 8, pl4, rfl, upd_same, hpl4, by decide, by decide, fun d6 pl5 h60 h61 hpl5 => ?_⟩
      rw [upd_upd]
      refine ⟨d6, rfl, by omega, by omega, for_range (lo := 0) (n := d6.toNat) (fun j σ H3 => ∃ (l : List Nat) (pl6 : List V) (v6 : Option V), σ = [some (.ref p), some (.int c), some (.str "abcdefghijklmnopqrstuvwxyz0123456789"), some (.ref nl), some (.int (0 + (i : Int))), some (.str (S l)), v6] ∧ Word l ∧ l.length = 1 + j ∧ H3 p = some (.lst pl6) ∧ PoolL pl6 ∧ H3 nl = some (.lst (ss.map V.str)) ∧ Fr p H H3) ?_ ?_ ?_⟩
      · exact ⟨[c1], pl5, v6, rfl, ⟨_, [], rfl, hcr hd1, rfl⟩, rfl, upd_same, hpl5, by rw [upd_ne nn.1]; exact hnl, fr.trans Fr.upd⟩
      · rintro j σ H3 hj ⟨l, pl6, v6', rfl, hw, hl, h1, h2, h4, h5⟩
        refine ⟨_, rfl, _, rfl, _, rfl, p, 36, pl6, rfl, h1, h2, by decide, by decide, fun d9 pl7 h90 h91 hpl7 => ?_⟩
        obtain ⟨c2, hc2, hcl2, _⟩ := alsigns_atI d9 h90 h91
        refine ⟨_, _, c2, rfl, rfl, by rw [sizeLine_eq]; decide, hc2, _, _, rfl, rfl, ?_, ?_⟩
        · rw [S_len, sizeLine_eq]
          show _ + 1 ≤ _
          omega
        · have e : S l ++ (⟨#[c2]⟩ : Str) = S (l ++ [c2]) := S_cat l [_]
          rw [e]
          exact ⟨l ++ [c2], pl7, _, rfl, hw.snoc hcl2, by rw [List.length_append, hl]; rfl, upd_same, hpl7, by rw [upd_ne nn.1]; exact h4, h5.trans Fr.upd⟩
      · rintro σ H3 ⟨l, pl6, v6', rfl, hw, hl, h1, h2, h4, h5⟩
        have fin : ∀ (s : Str) (H4 : Hp) (w4 w5 w6 : Option V), isNm s = true → s ∉ ss → H4 p = some (.lst pl6) → H4 nl = some (.lst (ss.map V.str)) → Fr p H H4 →
          AnW p nl c H (i + 1) [some (.ref p), some (.int c), some (.str "abcdefghijklmnopqrstuvwxyz0123456789"), some (.ref nl), w4, w5, w6] (upd H4 nl (.lst (ss.map V.str ++ [.str s]))) :=
          fun s H4 w4 w5 w6 hs hn a1 a2 a3 => ⟨⟨ss ++ [s], pl6, w4, w5, w6, rfl, by rw [upd_ne nn.1.symm]; exact a1, h2, by rw [List.map_append]; exact upd_same, by rw [List.length_append, hlen]; rfl, fun x hx => by
            rcases List.mem_append.mp hx with z | z
            · exact hnm x z
            · rw [List.mem_singleton.mp z]; exact hs, List.nodup_append.mpr ⟨hnd, by simp, fun a ha b hb e => by rw [List.mem_singleton.mp hb] at e; exact hn (e ▸ ha)⟩⟩, a3.new nn.2, nn⟩
        -- if name == 'street' or name in names: name = _law_fresh(names)
        have frs : ∀ (D : Ends) (σ' : L2.St), True := fun _ _ => trivial
        refine ⟨_, rfl, rfl, _, rfl, ?_⟩
        refine ite2 (fun ct => ?_) (fun ct => ?_)
        · refine iteT ⟨_, rfl, nl, ss, rfl, SqL.of h4, by omega, fun s H4 hs hn e4 => ?_⟩
          exact ⟨_, rfl, Or.inl ⟨rfl, _, SqL.of (e4 _ _ h4)⟩, _, rfl, nl, _, _, rfl, rfl, e4 _ _ h4, hsl, fin s H4 _ _ _ hs hn (e4 _ _ h1) (e4 _ _ h4) (h5.trans (Fr.ex e4))⟩
        · have hne : S l ≠ "street" := fun h => ct (decide_eq_true (congrArg V.str h))
          refine ⟨_, rfl, _, rfl, nl, _, rfl, Or.inl (SqL.of h4), rfl, flat_strs ss, _, rfl, ?_⟩
          rw [inV_str]
          refine ite2 (fun ct2 => ?_) (fun ct2 => ?_)
          · refine ⟨_, rfl, nl, ss, rfl, SqL.of h4, by omega, fun s H4 hs hn e4 => ?_⟩
            exact ⟨_, rfl, Or.inl ⟨rfl, _, SqL.of (e4 _ _ h4)⟩, _, rfl, nl, _, _, rfl, rfl, e4 _ _ h4, hsl, fin s H4 _ _ _ hs hn (e4 _ _ h1) (e4 _ _ h4) (h5.trans (Fr.ex e4))⟩
          · have hn : S l ∉ ss := fun h => ct2 (by simpa using h)
            exact ⟨_, rfl, Or.inl ⟨rfl, _, SqL.of h4⟩, _, rfl, nl, _, _, rfl, rfl, h4, hsl, fin _ H3 _ _ _ (hw.nm (by omega) hne) hn h1 h4 h5⟩
    · rintro σ H2 ⟨⟨ss, pl3, v4, v5, v6, rfl, hp3, hpl3, hnl, hlen, hnm, hnd⟩, fr, nn⟩
      exact ⟨_, rfl, q ss nl pl3 H2 (by omega) hnm hnd nn.2 hnl hp3 hpl3 fr⟩
end
end Rk

namespace Rk
open PySem PySem.Spec PyProof.Rows L2 He Rb C8 SX
/-! ### lists of tuples -/
def TupsAt (H : Hp) (as : List Addr) (rows : List (List V)) : Prop := Paired (fun a r => H a = some (.tup r)) as rows
theorem TupsAt.keep {H H' : Hp} {as : List Addr} {rows : List (List V)} (h : TupsAt H as rows) (k : NL H H') : TupsAt H' as rows := paired_imp (fun a r e => k a _ (fun _ z => by cases z) e) h
theorem NL.fr {p : Addr} {H H' : Hp} {pl : List V} (f : Fr p H H') (hp : H p = some (.lst pl)) : NL H H' := fun b o n h => f b o (fun e => by rw [e, hp] at h; exact n _ (Option.some.inj h).symm) h
theorem NL.trans {H H1 H2 : Hp} (a : NL H H1) (b : NL H1 H2) : NL H H2 := fun x o n h => b x o n (a x o n h)
theorem TupsAt.get {H : Hp} : ∀ {as : List Addr} {rows : List (List V)} {i : Nat} {r : List V}, TupsAt H as rows → rows[i]? = some r → ∃ a, as[i]? = some a ∧ H a = some (.tup r)
  | [], [], _, _, _, e => by cases e
  | a :: _, r :: _, 0, _, .cons h _, e => ⟨a, rfl, by rw [h, Option.some.inj e]⟩
  | _ :: _, _ :: _, i + 1, _, .cons _ t, e => TupsAt.get (i := i) t e
theorem TupsAt.snoc {H : Hp} {as : List Addr} {rows : List (List V)} {a : Addr} {r : List V} (h : TupsAt H as rows) (e : H a = some (.tup r)) : TupsAt H (as ++ [a]) (rows ++ [r]) := paired_snoc h e
theorem TupsAt.tail {H : Hp} {a : Addr} {as : List Addr} {r : List V} {rows : List (List V)} (h : TupsAt H (a :: as) (r :: rows)) : TupsAt H as rows := by
  cases h with
  | cons _ t => exact t
theorem tups_of {H : Hp} {f : Nat → List V} : ∀ {l : List Nat} {acc : List V}, Paired (fun i y => ∃ t, y = V.ref t ∧ H t = some (.tup (f i))) l acc → ∃ as : List Addr, acc = as.map V.ref ∧ TupsAt H as (l.map f)
  | [], [], _ => ⟨[], rfl, .nil⟩
  | _ :: _, _ :: _, .cons ⟨t, h1, h2⟩ r => by
    obtain ⟨as, e1, e2⟩ := tups_of r
    exact ⟨t :: as, by rw [h1, e1]; rfl, .cons h2 e2⟩
theorem sqL_fr {K : PySem.W.Frag} {H H' : Hp} {a p : Addr} {xs pl : List V} (h : SqL K H a xs) (hp : H p = some (.lst pl)) (hne : xs ≠ pl) (f : Fr p H H') : SqL K H' a xs := by
  rcases h with (h | ⟨o, h⟩) | h
  · exact .inl (.inl (f a _ (fun e => by rw [e, hp] at h; exact hne (HO.lst.inj (Option.some.inj h)).symm) h))
  · exact .inl (.inr ⟨o, f a _ (fun e => by rw [e, hp] at h; cases h) h⟩)
  · exact .inr h
theorem strs_ne {ss : List Str} {pl : List V} (h : PoolL pl) : ss.map V.str ≠ pl := by
  obtain ⟨a, b, c, rfl, _⟩ := h
  cases ss with
  | nil => intro e; cases e
  | cons s ss => intro e; cases e
/-! ### a round of rides -/
def prV (r : Str × Str) : List V := [.str r.1, .str r.2]
def PairOk (ps : List Str) (r : Str × Str) : Prop := r.1 ∈ ps ∧ r.2 ∈ ps ∧ r.1 ≠ r.2
def spRound (K : PySem.W.Frag) : Sp := fun vs H Q _ => ∃ (p a : Addr) (m : Int) (pl : List V) (ps : List Str), vs = [.ref p, .ref a, .int m] ∧ H p = some (.lst pl) ∧ PoolL pl ∧ SqL K H a (ps.map V.str) ∧ ps.Nodup ∧ 2 ≤ ps.length ∧ ps.length ≤ 12 ∧ 2 ≤ m ∧ m ≤ 1000 ∧
  ∀ (prs : List (Str × Str)) (as : List Addr) (l : Addr) (pl' : List V) (H' : Hp), (∀ r ∈ prs, PairOk ps r) → H l = none → H' l = some (.lst (as.map V.ref)) → TupsAt H' as (prs.map prV) → H' p = some (.lst pl') → PoolL pl' → Fr p H H' → Q (.ref l) H'
theorem walk_ne {b h n : Int} {i j : Int} (hh : h = 1 ∨ h = -1) (hn : 0 < n) (hi : 0 ≤ i) (hi' : i < n) (hj : 0 ≤ j) (hj' : j < n) (hij : i ≠ j) : (b + h * i) % n ≠ (b + h * j) % n := by
  intro e
  have hd := Int.emod_emod_of_dvd
  have : (b + h * i - (b + h * j)) % n = 0 := Int.emod_eq_emod_iff_emod_sub_eq_zero.mp e
  obtain ⟨k, hk⟩ := Int.dvd_of_emod_eq_zero this
  have key : i - j = n * k ∨ j - i = n * k := by
    rcases hh with rfl | rfl
    · left; omega
    · right; omega
  have hk0 : k = 0 := by
    apply Classical.byContradiction
    intro hk0
    rcases Int.lt_or_gt_of_ne hk0 with h1 | h1
    · have := Int.mul_le_mul_of_nonneg_left (a := k) (b := -1) (c := n) (by omega) (by omega)
      omega
    · have := Int.mul_le_mul_of_nonneg_left (a := 1) (b := k) (c := n) (by omega) (by omega)
      omega
  subst hk0
  omega
abbrev N__law_round : List Str := ["pool", "places", "most", "size", "begin", "hop", "row", "j"]
theorem sc__law_round : FnScope N__law_round ["pool", "places", "most"] (defScope s__law_round) := ⟨rfl, rfl, rfl, by decide +kernel, rfl, by decide +kernel, by decide +kernel⟩
section
variable {P : Program} {w : World} {K : PySem.W.Frag} {mg : Str → Option Value} {base : Heap}
theorem ok_round (T : Txt K mg) : Cal P w K mg base 2 "_law_round" (spRound K) := by
  have C__law_take := ok_take (P := P) (w := w) (base := base) T
  obtain ⟨fd, F⟩ := T.d__law_round
  refine cal_of F (fn_ok0 F sc__law_round (fun vs H Q E h => ?_) (fun cdv A outer s H vs Q E hr h => ?_)) T.m__law_round fun _ _ _ _ _ _ us hl => match us, hl with | [_, _, _], _ => rfl
  · obtain ⟨p, a, m, pl, ps, rfl, _⟩ := h
    rfl
  · obtain ⟨p, a, m, pl, ps, rfl, hp, hpl, hS, hnd, hl2, hl12, hm2, hm9, q⟩ := h
    have hlen : (ps.map V.str).length = ps.length := List.length_map ..
    refine ⟨_, pss_cons (ps_set (i := 3) sc__law_round.nd rfl (Or.inr rfl) (pe_op op_add (pe_int) (pe_cal C__law_take hr (by decide) rfl (pa_cons (pv 0) (pa_cons (pe_op op_sub (pe_callB (call_min2 rfl) (by rfl) T.n_min T.b_min (pa_cons (pe_callB (call_lenK (K := K)) (by rfl) T.n_len T.b_len (pa_cons (pv 1) (pa_nil))) (pa_cons (pv 2) (pa_nil)))) (pe_int)) (pa_nil))))))
      (pss_cons (ps_set (i := 4) sc__law_round.nd rfl (Or.inr rfl) (pe_cal C__law_take hr (by decide) rfl (pa_cons (pv 0) (pa_cons (pe_callB (call_lenK (K := K)) (by rfl) T.n_len T.b_len (pa_cons (pv 1) (pa_nil))) (pa_nil)))))
      (pss_cons (ps_set (i := 5) sc__law_round.nd rfl (Or.inr rfl) (pe_op op_sub (pe_int) (pe_op op_mul (pe_int) (pe_cal C__law_take hr (by decide) rfl (pa_cons (pv 0) (pa_cons (pe_int) (pa_nil)))))))
      (pss_cons (ps_set (i := 6) sc__law_round.nd rfl (Or.inr rfl) (pe_lc (own := [("j", 7)]) rfl sc__law_round.nd (pi_range1 rfl T.n_range (pa_cons (pv 3) (pa_nil))) (blkOk_by (N := N__law_round) (sc := defScope s__law_round) (by decide +kernel)) (fun _ _ _ _ _ => pg_name (i := 7) sc__law_round.nd rfl (Or.inl rfl)) (fun _ _ _ _ _ => pts_nil) (fun _ _ _ _ _ => pe_ix (ix_listK (K := K)) (pv 1) (pe_op op_mod (pe_op op_add (pv 4) (pe_op op_mul (pv 5) (pv 7))) (pe_callB (call_lenK (K := K)) (by rfl) T.n_len T.b_len (pa_cons (pv 1) (pa_nil)))) (fun _ _ => rfl))))
      (pss_one (ps_ret (pe_lc (own := [("j", 7)]) rfl sc__law_round.nd (pi_range1 rfl T.n_range (pa_cons (pv 3) (pa_nil))) (blkOk_by (N := N__law_round) (sc := defScope s__law_round) (by decide +kernel)) (fun _ _ _ _ _ => pg_name (i := 7) sc__law_round.nd rfl (Or.inl rfl)) (fun _ _ _ _ _ => pts_nil) (fun _ _ _ _ _ => pe_tup (pa_cons (pe_ix (ix_listK (K := K)) (pv 6) (pv 7) (fun _ _ => rfl)) (pa_cons (pe_ix (ix_listK (K := K)) (pv 6) (pe_op op_mod (pe_op op_add (pv 7) (pe_int)) (pv 3)) (fun _ _ => rfl)) (pa_nil)))))))))), ?_⟩
    -- size
    have hmin : ∃ mn : Int, (if m < (ps.length : Int) then m else (ps.length : Int)) = mn ∧ 2 ≤ mn ∧ mn ≤ ps.length := ⟨_, rfl, by split <;> omega, by split <;> omega⟩
    obtain ⟨mn, hmn, hmn2, hmn3⟩ := hmin
    refine ⟨_, rfl, _, rfl, _, ps.length, rfl, .inl ⟨_, hS, hlen.symm⟩, _, rfl, _, _, rfl, ?_⟩
    rw [hmn]
    refine ⟨_, _, rfl, rfl, p, mn - 1, pl, rfl, hp, hpl, by omega, by omega, fun d pl1 hd0 hd1 hpl1 => ?_⟩
    have f1 : Fr p H (upd H p (.lst pl1)) := Fr.upd
    have s1 := sqL_fr hS hp (strs_ne hpl) f1
    refine ⟨_, _, rfl, rfl, ?_⟩
    have hz0 : 2 ≤ 2 + d := by omega
    have hz1 : 2 + d ≤ ps.length := by omega
    -- begin, (1 - 2 * hp2)
    refine ⟨_, rfl, _, rfl, _, ps.length, rfl, .inl ⟨_, s1, hlen.symm⟩, p, ps.length, pl1, rfl, upd_same, hpl1, by omega, by omega, fun bg pl2 hb0 hb1 hpl2 => ?_⟩
    rw [upd_upd]
    refine ⟨_, rfl, p, 2, pl2, rfl, upd_same, hpl2, by decide, by decide, fun hp2 pl3 hh0 hh1 hpl3 => ?_⟩
    rw [upd_upd]
    refine ⟨_, _, rfl, rfl, Or.inl ⟨by decide, by decide⟩, _, _, rfl, rfl, ?_⟩
    have f3 : Fr p H (upd H p (.lst pl3)) := Fr.upd
    have s3 := sqL_fr hS hp (strs_ne hpl) f3
    have p3 : upd H p (.lst pl3) p = some (.lst pl3) := upd_same
    generalize upd H p (.lst pl3) = H3 at f3 s3 p3
    have hhop : 1 - 2 * hp2 = 1 ∨ 1 - 2 * hp2 = -1 := by omega
    have hn0 : (0 : Int) < ps.length := by omega
    -- the places in their row
    have hrow : ∀ i : Nat, ∃ x, ps[((bg + (1 - 2 * hp2) * (i : Int)) % (ps.length : Int)).toNat]? = some x := fun i => by
      have h1 := Int.emod_nonneg (bg + (1 - 2 * hp2) * (i : Int)) (b := (ps.length : Int)) (by omega)
      have h2 := Int.emod_lt_of_pos (bg + (1 - 2 * hp2) * (i : Int)) (b := (ps.length : Int)) hn0
      exact ⟨_, List.getElem?_eq_getElem (by omega)⟩
    obtain ⟨rw_, hrw⟩ := Classical.axiomOfChoice hrow
    have hat : ∀ i : Nat, atI (ps.map V.str) ((bg + (1 - 2 * hp2) * (i : Int)) % (ps.length : Int)) = some (.str (rw_ i)) := fun i => by
      have h1 := Int.emod_nonneg (bg + (1 - 2 * hp2) * (i : Int)) (b := (ps.length : Int)) (by omega)
      have e : (bg + (1 - 2 * hp2) * (i : Int)) % (ps.length : Int) = ((((bg + (1 - 2 * hp2) * (i : Int)) % (ps.length : Int)).toNat : Nat) : Int) := by omega
      rw [e]
      exact atI_nat (by rw [List.getElem?_map, hrw i]; rfl)
    have hne : ∀ i j : Nat, (i : Int) < ps.length → (j : Int) < ps.length → i ≠ j → rw_ i ≠ rw_ j := fun i j hi hj hij e => by
      have h1 := Int.emod_nonneg (bg + (1 - 2 * hp2) * (i : Int)) (b := (ps.length : Int)) (by omega)
      have h2 := Int.emod_nonneg (bg + (1 - 2 * hp2) * (j : Int)) (b := (ps.length : Int)) (by omega)
      have h3 := Int.emod_lt_of_pos (bg + (1 - 2 * hp2) * (i : Int)) (b := (ps.length : Int)) hn0
      have h4 := Int.emod_lt_of_pos (bg + (1 - 2 * hp2) * (j : Int)) (b := (ps.length : Int)) hn0
      have h5 := walk_ne (b := bg) hhop hn0 (i := i) (j := j) (by omega) hi (by omega) hj (by omega)
      have e1 := hrw i
      have e2 := hrw j
      rw [e] at e1
      have h6 := (List.getElem?_inj (by omega) hnd).mp (e1.trans e2.symm)
      omega
    refine q_asgP (ev_lcV (fun _ => true) (fun i => .str (rw_ i)) (src_r1 (Evl.ea_cons (Evl.ev_var rfl) Evl.ea_nil) (by omega) (by omega)) (by omega) fun i x H4 e hi y => ⟨_, evg_name, by subst y; rfl, et_yes, fun _ H5 e5 Q2 k => ?_⟩) fun v H4 e4 ⟨D, hv, hD, hH4⟩ => ?_
    · subst y
      have s5 := Evl.ex_l (e.trans e5) s3
      exact ⟨_, rfl, _, rfl, _, rfl, _, rfl, _, _, rfl, rfl, Or.inl ⟨by omega, by omega⟩, _, _, rfl, rfl, _, rfl, _, ps.length, rfl, .inl ⟨_, s5, hlen.symm⟩, _, _, rfl, rfl, hn0, a, _, _, _, rfl, rfl, s5, hat i, k _ (Evl.Ex.refl _)⟩
    · subst hv
      rw [idx_all] at hH4
      have hrl : ∀ i : Nat, (i : Int) < (2 + d) → atI ((List.range (2 + d).toNat).map fun i => V.str (rw_ i)) (i : Int) = some (.str (rw_ i)) := fun i hi => atI_nat (by rw [List.getElem?_map, List.getElem?_range (by omega)]; rfl)
      have hj2 : ∀ i : Nat, (i : Int) < (2 + d) → ∃ j : Nat, ((i : Int) + 1) % (2 + d) = (j : Int) ∧ (j : Int) < (2 + d) ∧ i ≠ j := fun i hi => by
        have h1 := Int.emod_nonneg ((i : Int) + 1) (b := (2 + d)) (by omega)
        have h2 := Int.emod_lt_of_pos ((i : Int) + 1) (b := (2 + d)) (by omega)
        refine ⟨(((i : Int) + 1) % (2 + d)).toNat, by omega, by omega, fun e => ?_⟩
        have e' : ((i : Int) + 1) % (2 + d) = i := by omega
        by_cases hc : (i : Int) + 1 < (2 + d)
        · rw [Int.emod_eq_of_lt (by omega) hc] at e'
          omega
        · have hc2 : (i : Int) + 1 = (2 + d) := by omega
          rw [hc2, Int.emod_self] at e'
          omega
      refine s_retP (ev_lc (fun _ => true) (fun i y H5 => ∃ t, y = V.ref t ∧ H5 t = some (.tup (prV (rw_ i, rw_ (((i : Int) + 1) % (2 + d)).toNat)))) (src_r1 (Evl.ea_cons (Evl.ev_var rfl) Evl.ea_nil) (by omega) (by omega)) (by omega) (fun i y Ha Hb k ⟨t, h1, h2⟩ => ⟨t, h1, k t _ (fun _ z => by cases z) h2⟩) fun i x H5 e hi y => ⟨_, evg_name, by subst y; rfl, et_yes, fun _ H6 e6 Q2 k => ?_⟩) fun v H5 e5 ⟨D2, acc, hv, hD2, hH5, hpd⟩ => ?_
      · subst y
        obtain ⟨j, hj1, hj2', hj3⟩ := hj2 i (by omega)
        have s6 : H6 D = _ := e6 _ _ (e _ _ hH4)
        refine ⟨_, rfl, _, rfl, D, _, _, _, rfl, rfl, SqL.of s6, hrl i (by omega), _, rfl, _, rfl, _, _, rfl, rfl, _, rfl, _, _, rfl, rfl, (by show (0:Int) < (2 + d); omega), D, _, _, .str (rw_ j), rfl, rfl, SqL.of s6, ?_, by rw [sizeLine_eq]; exact (by decide : 2 ≤ 16777216), fun t ht => k _ _ (Evl.Ex.new ht) ⟨t, rfl, ?_⟩⟩
        · rw [hj1]
          exact hrl j hj2'
        · rw [upd_same, hj1, Int.toNat_natCast]
          rfl
      · subst hv
        rw [idx_all] at hpd
        obtain ⟨as, rfl, hT⟩ := tups_of (f := fun i => prV (rw_ i, rw_ (((i : Int) + 1) % (2 + d)).toNat)) hpd
        refine q ((List.range (2 + d).toNat).map fun i => (rw_ i, rw_ (((i : Int) + 1) % (2 + d)).toNat)) as D2 pl3 H5 (fun r hr => ?_) ?_ hH5 (by rw [List.map_map]; exact hT) (e5 _ _ (e4 _ _ p3)) hpl3 ((f3.trans (Fr.ex e4)).trans (Fr.ex e5))
        · obtain ⟨i, hi, rfl⟩ := List.mem_map.mp hr
          have hi := List.mem_range.mp hi
          obtain ⟨j, hj1, hj2', hj3⟩ := hj2 i (by omega)
          rw [hj1, Int.toNat_natCast]
          exact ⟨List.mem_of_getElem? (hrw i), List.mem_of_getElem? (hrw j), hne i j (by omega) (by omega) hj3⟩
        · exact (f3.free p3 (Evl.fresh_back e4 hD2)).1
end
end Rk

namespace Rk
open PySem PySem.Spec PyProof.Rows L2 He Rb C8 SX
/-- a statement and what comes behind it, with what is known between them -/
theorem cutS {ta tb : TS} {D : Ends} {σ : L2.St} {H : Hp} (R : L2.St → Hp → Prop) (h2 : ∀ σ' H', R σ' H' → tb D σ' H') (h1 : ∀ nx : L2.St → Hp → Prop, (∀ σ' H', R σ' H' → nx σ' H') → ta { D with nx := nx } σ H) : tSeq ta tb D σ H := h1 _ h2
theorem cutA (i : Nat) {te : TE} {tb : TS} {D : Ends} {σ : L2.St} {H : Hp} (R : L2.St → Hp → Prop) (h2 : ∀ σ' H', R σ' H' → tb D σ' H') (h1 : ∀ nx : L2.St → Hp → Prop, (∀ σ' H', R σ' H' → nx σ' H') → tAsg te (gName i) { D with nx := nx } σ H) : tSeq (tAsg te (gName i)) tb D σ H := h1 _ h2
theorem cutI {c : TT} {t u tb : TS} {D : Ends} {σ : L2.St} {H : Hp} (R : L2.St → Hp → Prop) (h2 : ∀ σ' H', R σ' H' → tb D σ' H') (h1 : ∀ nx : L2.St → Hp → Prop, (∀ σ' H', R σ' H' → nx σ' H') → tIfS c t u { D with nx := nx } σ H) : tSeq (tIfS c t u) tb D σ H := h1 _ h2
structure Rd where
  name : Str
  start : Str
  goal : Str
  kept : Bool
def rdV (r : Rd) : List V := [.str r.name, .str r.start, .str r.goal, .bl r.kept]
structure RideOk (ps : List Str) (r : Rd) : Prop where
  s : r.start ∈ ps ∨ r.start = "street"
  g : r.goal ∈ ps ∨ r.goal = "street"
  ne : r.start ≠ r.goal
  k : r.kept = false → r.start ≠ "street" ∧ r.goal ≠ "street"
def unk (rs : List Rd) : Nat := (rs.filter fun r => !r.kept).length
theorem unk_snoc (rs : List Rd) (r : Rd) : unk (rs ++ [r]) = unk rs + (if r.kept then 0 else 1) := by
  unfold unk
  rw [List.filter_append, List.length_append]
  cases h : r.kept <;> simp [h]
def spRides (K : PySem.W.Frag) : Sp := fun vs H Q _ => ∃ (p na pa : Addr) (st sp : Int) (pl : List V) (ns ps : List Str), vs = [.ref p, .ref na, .ref pa, .int st, .int sp] ∧ H p = some (.lst pl) ∧ PoolL pl ∧
  SqL K H na (ns.map V.str) ∧ SqL K H pa (ps.map V.str) ∧ ps.Nodup ∧ (∀ s ∈ ps, isNm s = true) ∧ 1 ≤ ps.length ∧ ps.length ≤ 12 ∧ ns.length ≤ 24 ∧ 0 ≤ sp ∧ sp ≤ 24 ∧
  ∀ (rs : List Rd) (as : List Addr) (l : Addr) (pl' : List V) (H' : Hp), rs.map Rd.name = ns → (∀ r ∈ rs, RideOk ps r) → (unk rs : Int) ≤ sp → H l = none → H' l = some (.lst (as.map V.ref)) → TupsAt H' as (rs.map rdV) → H' p = some (.lst pl') → PoolL pl' → Fr p H H' → Q (.ref l) H'
structure Wd (p rl ta : Addr) (H0 : Hp) (as tas : List Addr) (rs : List Rd) (prs : List (Str × Str)) (H : Hp) : Prop where
  pool : ∃ pl, H p = some (.lst pl) ∧ PoolL pl
  fr : Fr p H0 H
  hrl : H rl = some (.lst (as.map V.ref))
  ras : TupsAt H as (rs.map rdV)
  htl : H ta = some (.lst (tas.map V.ref))
  tas : TupsAt H tas (prs.map prV)
  okp : rl ≠ p ∧ ta ≠ p ∧ rl ≠ ta
theorem Wd.ex {p rl ta : Addr} {H0 H H' : Hp} {as tas : List Addr} {rs : List Rd} {prs : List (Str × Str)} (w : Wd p rl ta H0 as tas rs prs H) (e : Ex H H') : Wd p rl ta H0 as tas rs prs H' := by
  obtain ⟨pl, h1, h2⟩ := w.pool
  exact ⟨⟨pl, e _ _ h1, h2⟩, w.fr.trans (Fr.ex e), e _ _ w.hrl, w.ras.keep (NL.ex e), e _ _ w.htl, w.tas.keep (NL.ex e), w.okp⟩
theorem Wd.draw {p rl ta : Addr} {H0 H : Hp} {as tas : List Addr} {rs : List Rd} {prs : List (Str × Str)} {pl : List V} (w : Wd p rl ta H0 as tas rs prs H) (h : PoolL pl) : Wd p rl ta H0 as tas rs prs (upd H p (.lst pl)) := by
  obtain ⟨pl0, h1, h2⟩ := w.pool
  exact ⟨⟨pl, upd_same, h⟩, w.fr.trans Fr.upd, by rw [upd_ne w.okp.1]; exact w.hrl, w.ras.keep (NL.upd h1), by rw [upd_ne w.okp.2.1]; exact w.htl, w.tas.keep (NL.upd h1), w.okp⟩
theorem Wd.oth {p rl ta q : Addr} {H0 H : Hp} {as tas : List Addr} {rs : List Rd} {prs : List (Str × Str)} {ys xs : List V} (w : Wd p rl ta H0 as tas rs prs H) (h : H q = some (.lst xs)) (h0 : H0 q = none) (n1 : q ≠ p) (n2 : q ≠ rl) (n3 : q ≠ ta) : Wd p rl ta H0 as tas rs prs (upd H q (.lst ys)) := by
  obtain ⟨pl0, h1, h2⟩ := w.pool
  exact ⟨⟨pl0, by rw [upd_ne n1.symm]; exact h1, h2⟩, w.fr.new h0, by rw [upd_ne n2.symm]; exact w.hrl, w.ras.keep (NL.upd h), by rw [upd_ne n3.symm]; exact w.htl, w.tas.keep (NL.upd h), w.okp⟩
theorem Wd.free {p rl ta q : Addr} {H0 H : Hp} {as tas : List Addr} {rs : List Rd} {prs : List (Str × Str)} (w : Wd p rl ta H0 as tas rs prs H) (h : H q = none) : H0 q = none ∧ q ≠ p ∧ q ≠ rl ∧ q ≠ ta := by
  obtain ⟨pl0, h1, h2⟩ := w.pool
  exact ⟨(w.fr.free h1 h).1, (w.fr.free h1 h).2, (ne_of_none w.hrl h).symm, (ne_of_none w.htl h).symm⟩
abbrev rdS (p na pa : Addr) (st sp : Int) (rl : Addr) (last : Str) (ta : Addr) (pt : Bool) (ch tl : Int) (k near tips start others goal holds place : Option V) : L2.St :=
  [some (.ref p), some (.ref na), some (.ref pa), some (.int st), some (.int sp), some (.ref rl), some (.str last), some (.ref ta), some (.bl pt), some (.int ch), some (.int tl), k, near, tips, start, others, goal, holds, place]
theorem cut_take (ps : List Str) (n : Nat) (h : n ≤ ps.length) : cutV (ps.map V.str) none (some (n : Int)) = (ps.take n).map V.str := by
  unfold cutV
  rw [HT.sIx_none, HT.sIx_nat, List.length_map, List.drop_zero, Nat.sub_zero, Nat.min_eq_left h, List.map_take]
theorem cut_drop (xs : List V) (n : Nat) (h : n ≤ xs.length) : cutV xs (some (n : Int)) none = xs.drop n := by
  unfold cutV
  rw [HT.sIx_none, HT.sIx_nat, Nat.min_eq_left h]
  exact List.take_of_length_le (by rw [List.length_drop]; exact Nat.le_refl _)
theorem at_mem {ts : List Str} {d : Int} (h0 : 0 ≤ d) (h1 : d < ts.length) : ∃ s, s ∈ ts ∧ atI (ts.map V.str) d = some (.str s) := by
  refine ⟨ts[d.toNat]'(by omega), List.getElem_mem _, ?_⟩
  have h4 := atI_nat (xs := ts.map V.str) (j := d.toNat) (v := .str (ts[d.toNat]'(by omega))) (by rw [List.getElem?_map, List.getElem?_eq_getElem (by omega)]; rfl)
  rwa [show ((d.toNat : Nat) : Int) = d by omega] at h4
theorem ne_dec (x s : Str) : decide (x ≠ s) = !decide (V.str x = V.str s) := by
  by_cases h : x = s
  · subst h; simp
  · simp [h]
abbrev N__law_rides : List Str := ["pool", "names", "places", "street", "spare", "rides", "last", "todo", "parted", "chain", "tail", "k", "near", "tips", "start", "others", "goal", "holds", "place"]
theorem sc__law_rides : FnScope N__law_rides ["pool", "names", "places", "street", "spare"] (defScope s__law_rides) := ⟨rfl, rfl, rfl, by decide +kernel, rfl, by decide +kernel, by decide +kernel⟩
section
variable {P : Program} {w : World} {K : PySem.W.Frag} {mg : Str → Option Value} {base : Heap}
theorem ok_rides (T : Txt K mg) : Cal P w K mg base 3 "_law_rides" (spRides K) := by
  have C__law_take := ok_take (P := P) (w := w) (base := base) T
  have C__law_round := ok_round (P := P) (w := w) (base := base) T
  obtain ⟨fd, F⟩ := T.d__law_rides
  refine cal_of F (fn_ok0 F sc__law_rides (fun vs H Q E h => ?_) (fun cdv A outer s H vs Q E hr h => ?_)) T.m__law_rides fun _ _ _ _ _ _ us hl => match us, hl with | [_, _, _, _, _], _ => rfl
  · obtain ⟨p, na, pa, st, sp, pl, ns, ps, rfl, _⟩ := h
    rfl
  · obtain ⟨p, na, pa, st, sp, pl, ns, ps, rfl, hp, hpl, hN, hS, hnd, hnm, hl1, hl12, hns, hsp0, hsp1, q⟩ := h
    have hlen : (ps.map V.str).length = ps.length := List.length_map ..
    have hlen2 : (ns.map V.str).length = ns.length := List.length_map ..
    have SN : ∀ {rl ta : Addr} {as tas : List Addr} {rs : List Rd} {prs : List (Str × Str)} {H' : Hp}, Wd p rl ta H as tas rs prs H' → SqL K H' na (ns.map V.str) := fun w => sqL_fr hN hp (strs_ne hpl) w.fr
    have SP : ∀ {rl ta : Addr} {as tas : List Addr} {rs : List Rd} {prs : List (Str × Str)} {H' : Hp}, Wd p rl ta H as tas rs prs H' → SqL K H' pa (ps.map V.str) := fun w => sqL_fr hS hp (strs_ne hpl) w.fr
    refine ⟨_, pss_cons (ps_set (i := 5) sc__law_rides.nd rfl (Or.inl rfl) (pe_lst (pa_nil)))
      (pss_cons (ps_set (i := 6) sc__law_rides.nd rfl (Or.inl rfl) (pe_str))
      (pss_cons (ps_set (i := 7) sc__law_rides.nd rfl (Or.inl rfl) (pe_lst (pa_nil)))
      (pss_cons (ps_set (i := 8) sc__law_rides.nd rfl (Or.inl rfl) (pe_and (pe_cmpR op_gt (pe_callB (call_lenK (K := K)) (by rfl) T.n_len T.b_len (pa_cons (pv 2) (pa_nil))) (pe_int) (nomark _)) (pe_one (pe_cmpR op_eq (pe_cal C__law_take hr (by decide) rfl (pa_cons (pv 0) (pa_cons (pe_int) (pa_nil)))) (pe_int) (nomark _)))))
      (pss_cons (ps_set (i := 9) sc__law_rides.nd rfl (Or.inl rfl) (pe_cal C__law_take hr (by decide) rfl (pa_cons (pv 0) (pa_cons (pe_int) (pa_nil)))))
      (pss_cons (ps_set (i := 10) sc__law_rides.nd rfl (Or.inl rfl) (pe_ix (ix_listK (K := K)) (pe_lst (pa_cons (pe_int) (pa_cons (pe_int) (pa_cons (pe_int) (pa_cons (pe_int) (pa_cons (pe_int) (pa_cons (pe_int) (pa_nil)))))))) (pe_cal C__law_take hr (by decide) rfl (pa_cons (pv 0) (pa_cons (pe_int) (pa_nil)))) (fun _ _ => rfl)))
      (pss_cons (ps_for PassesOwn.never rfl (pi_range1 rfl T.n_range (pa_cons (pe_callB (call_lenK (K := K)) (by rfl) T.n_len T.b_len (pa_cons (pv 1) (pa_nil))) (pa_nil))) (pg_name (i := 11) sc__law_rides.nd rfl (Or.inl rfl))
      (pss_cons (ps_set (i := 12) sc__law_rides.nd rfl (Or.inl rfl) (pe_callTy (call_listK (K := K)) (by rfl) T.n_list T.b_list (pa_cons (pv 2) (pa_nil))))
      (pss_cons (ps_if (pt_val (pv 8))
      (pss_cons (ps_set (i := 12) sc__law_rides.nd rfl (Or.inl rfl) (pe_slice (sl_listK (K := K)) (pv 2) po_none (po_some (pe_op op_fdiv (pe_callB (call_lenK (K := K)) (by rfl) T.n_len T.b_len (pa_cons (pv 2) (pa_nil))) (pe_int)))))
      (pss_one (ps_if (pt_cmpR op_ge (pe_op op_mul (pe_int) (pv 11)) (pe_callB (call_lenK (K := K)) (by rfl) T.n_len T.b_len (pa_cons (pv 1) (pa_nil))) (nomark _))
      (pss_one (ps_set (i := 12) sc__law_rides.nd rfl (Or.inl rfl) (pe_slice (sl_listK (K := K)) (pv 2) (po_some (pe_op op_fdiv (pe_callB (call_lenK (K := K)) (by rfl) T.n_len T.b_len (pa_cons (pv 2) (pa_nil))) (pe_int))) po_none)))
      (pss_nil))))
      (pss_nil))
      (pss_cons (ps_if (PW.pt (pw_and (pt_cmpR op_eq (pe_callB (call_lenK (K := K)) (by rfl) T.n_len T.b_len (pa_cons (pv 7) (pa_nil))) (pe_int) (nomark _)) (pw_and (pt_cmpR op_gt (pe_callB (call_lenK (K := K)) (by rfl) T.n_len T.b_len (pa_cons (pv 12) (pa_nil))) (pe_int) (nomark _)) (pw_and1 (pt_cmpR op_gt (pe_op op_sub (pe_op op_sub (pe_callB (call_lenK (K := K)) (by rfl) T.n_len T.b_len (pa_cons (pv 1) (pa_nil))) (pv 11)) (pv 10)) (pe_int) (nomark _))))))
      (pss_one (ps_set (i := 7) sc__law_rides.nd rfl (Or.inl rfl) (pe_cal C__law_round hr (by decide) rfl (pa_cons (pv 0) (pa_cons (pv 12) (pa_cons (pe_op op_sub (pe_op op_sub (pe_callB (call_lenK (K := K)) (by rfl) T.n_len T.b_len (pa_cons (pv 1) (pa_nil))) (pv 11)) (pv 10)) (pa_nil)))))))
      (pss_nil))
      (pss_cons (ps_set (i := 13) sc__law_rides.nd rfl (Or.inl rfl) (pe_callTy (call_listK (K := K)) (by rfl) T.n_list T.b_list (pa_cons (pv 12) (pa_nil))))
      (pss_cons (ps_if (PW.pt (pw_or (pt_cmpR op_lt (pe_callB (call_lenK (K := K)) (by rfl) T.n_len T.b_len (pa_cons (pv 13) (pa_nil))) (pe_int) (nomark _)) (pw_or1 (PW.pt (pw_and (pt_cmpR op_eq (pv 3) (pe_int) (nomark _)) (pw_and1 (pt_cmpR op_eq (pe_cal C__law_take hr (by decide) rfl (pa_cons (pv 0) (pa_cons (pe_int) (pa_nil)))) (pe_int) (nomark _))))))))
      (pss_one (ps_expr (pe_bmK (K := K) PySem.F.plainAttrs_list PySem.F.slot_list_append PySem.F.type_list_append mt_append (pv 13) (pa_cons (pe_str) (pa_nil)))))
      (pss_nil))
      (pss_cons (ps_set (i := 14) sc__law_rides.nd rfl (Or.inr rfl) (pe_ix (ix_listK (K := K)) (pv 13) (pe_cal C__law_take hr (by decide) rfl (pa_cons (pv 0) (pa_cons (pe_callB (call_lenK (K := K)) (by rfl) T.n_len T.b_len (pa_cons (pv 13) (pa_nil))) (pa_nil)))) (fun _ _ => rfl)))
      (pss_cons (ps_if (PW.pt (pw_and (pt_cmpR op_eq (pv 9) (pe_int) (nomark _)) (pw_and (pt_cmpR (op_in_seqK (K := K)) (pv 6) (pv 13) (by with_unfolding_all rfl)) (pw_and1 (pt_cmpR op_gt (pe_cal C__law_take hr (by decide) rfl (pa_cons (pv 0) (pa_cons (pe_int) (pa_nil)))) (pe_int) (nomark _))))))
      (pss_one (ps_set (i := 14) sc__law_rides.nd rfl (Or.inr rfl) (pv 6)))
      (pss_nil))
      (pss_cons (ps_setLc (i := 15) (own := [("place", 18)]) rfl sc__law_rides.nd rfl rfl (sw_true rfl rfl rfl (by decide +kernel)) (pi_listK (K := K) (pv 13)) (blkOk_by (N := N__law_rides) (sc := defScope s__law_rides) (by decide +kernel)) (fun _ _ _ _ _ => pg_name (i := 18) sc__law_rides.nd rfl (Or.inl rfl)) (fun _ _ _ _ _ => pts_one (pt_cmpR op_ne (pv 18) (pv 14) (nomark _))) (fun _ _ _ _ _ => pv 18))
      (pss_cons (ps_set (i := 16) sc__law_rides.nd rfl (Or.inl rfl) (pe_ix (ix_listK (K := K)) (pv 15) (pe_cal C__law_take hr (by decide) rfl (pa_cons (pv 0) (pa_cons (pe_callB (call_lenK (K := K)) (by rfl) T.n_len T.b_len (pa_cons (pv 15) (pa_nil))) (pa_nil)))) (fun _ _ => rfl)))
      (pss_cons (ps_if (pt_cmpR op_gt (pe_callB (call_lenK (K := K)) (by rfl) T.n_len T.b_len (pa_cons (pv 7) (pa_nil))) (pe_int) (nomark _))
      (pss_cons (ps_set (i := 14) sc__law_rides.nd rfl (Or.inr rfl) (pe_ix (ix_tupK (K := K)) (pe_ix (ix_listK (K := K)) (pv 7) (pe_int) (fun _ _ => rfl)) (pe_int) (fun _ _ => rfl)))
      (pss_cons (ps_set (i := 16) sc__law_rides.nd rfl (Or.inl rfl) (pe_ix (ix_tupK (K := K)) (pe_ix (ix_listK (K := K)) (pv 7) (pe_int) (fun _ _ => rfl)) (pe_int) (fun _ _ => rfl)))
      (pss_one (ps_set (i := 7) sc__law_rides.nd rfl (Or.inl rfl) (pe_slice (sl_listK (K := K)) (pv 7) (po_some (pe_int)) po_none)))))
      (pss_nil))
      (pss_cons (ps_set (i := 17) sc__law_rides.nd rfl (Or.inl rfl) (pe_bl))
      (pss_cons (ps_if (PW.pt (pw_and (pt_cmpR op_gt (pv 4) (pe_int) (nomark _)) (pw_and (pt_cmpR op_ne (pv 14) (pe_str) (nomark _)) (pw_and (pt_cmpR op_ne (pv 16) (pe_str) (nomark _)) (pw_and1 (pt_cmpR op_eq (pe_cal C__law_take hr (by decide) rfl (pa_cons (pv 0) (pa_cons (pe_int) (pa_nil)))) (pe_int) (nomark _)))))))
      (pss_cons (ps_set (i := 17) sc__law_rides.nd rfl (Or.inl rfl) (pe_bl))
      (pss_one (ps_set (i := 4) sc__law_rides.nd rfl (Or.inl rfl) (pe_op op_sub (pv 4) (pe_int)))))
      (pss_nil))
      (pss_cons (ps_expr (pe_bmK (K := K) PySem.F.plainAttrs_list PySem.F.slot_list_append PySem.F.type_list_append mt_append (pv 5) (pa_cons (pe_tup (pa_cons (pe_ix (ix_listK (K := K)) (pv 1) (pv 11) (fun _ _ => rfl)) (pa_cons (pv 14) (pa_cons (pv 16) (pa_cons (pv 17) (pa_nil)))))) (pa_nil))))
      (pss_one (ps_set (i := 6) sc__law_rides.nd rfl (Or.inl rfl) (pv 16)))))))))))))))))
      (pss_one (ps_ret (pv 5))))))))), ?_⟩
    refine ⟨by rw [sizeLine_eq]; decide, fun rl nrl => ?_⟩
    refine ⟨by rw [sizeLine_eq]; decide, fun ta nta => ?_⟩
    have w0 : Wd p rl ta H [] [] [] [] (upd (upd H rl (.lst [])) ta (.lst [])) := by
      have n1 : rl ≠ ta := ne_of_none upd_same nta
      have n2 : rl ≠ p := (ne_of_none hp nrl).symm
      have n3 : ta ≠ p := fun e => by
        subst e
        rw [upd_ne n2.symm, hp] at nta
        cases nta
      exact ⟨⟨pl, by rw [upd_ne n3.symm, upd_ne n2.symm]; exact hp, hpl⟩, (Fr.ex (Evl.Ex.new nrl)).trans (Fr.ex (Evl.Ex.new nta)), by rw [upd_ne n1]; exact upd_same, .nil, upd_same, .nil, n2, n3, n1⟩
    have f0 := w0.fr
    generalize upd (upd H rl (.lst [])) ta (.lst []) = H1 at w0 f0
    -- parted
    dsimp only [gName]
    refine cutA 8 (fun σ H' => ∃ pt : Bool, (pt = true → 3 < ps.length) ∧ Wd p rl ta H [] [] [] [] H' ∧ σ = [some (.ref p), some (.ref na), some (.ref pa), some (.int st), some (.int sp), some (.ref rl), some (.str ""), some (.ref ta), some (.bl pt), none, none, none, none, none, none, none, none, none, none]) (fun σ H2 h2 => ?_) (fun nx h => ?_)
    · obtain ⟨pt, hpt, w1, rfl⟩ := h2
      obtain ⟨pl1, hp1, hpl1⟩ := w1.pool
      refine ⟨_, rfl, p, 2, pl1, rfl, hp1, hpl1, by decide, by decide, fun ch pl2 hch0 hch1 hpl2 => ?_⟩
      have w2 := w1.draw hpl2
      refine ⟨by rw [sizeLine_eq]; decide, fun l5 nl5 => ?_⟩
      have w3 := w2.ex (Evl.Ex.new (o := .lst [.int 99, .int 0, .int 0, .int 0, .int 1, .int 2]) nl5)
      refine ⟨_, rfl, p, 6, pl2, rfl, (Evl.Ex.new nl5) _ _ upd_same, hpl2, by decide, by decide, fun d pl3 hd0 hd1 hpl3 => ?_⟩
      have w4 := w3.draw hpl3
      have ht : ∃ t : Int, 0 ≤ t ∧ atI [V.int 99, .int 0, .int 0, .int 0, .int 1, .int 2] d = some (.int t) := by
        have h : ∀ k : Fin 6, ∃ t : Int, 0 ≤ t ∧ [V.int 99, .int 0, .int 0, .int 0, .int 1, .int 2][k.val]? = some (.int t) := fun k => match k with
          | 0 => ⟨99, by decide, rfl⟩ | 1 => ⟨0, by decide, rfl⟩ | 2 => ⟨0, by decide, rfl⟩ | 3 => ⟨0, by decide, rfl⟩ | 4 => ⟨1, by decide, rfl⟩ | 5 => ⟨2, by decide, rfl⟩
        obtain ⟨t, h0, h1⟩ := h ⟨d.toNat, by omega⟩
        refine ⟨t, h0, ?_⟩
        have h4 := atI_nat h1
        have e : ((d.toNat : Nat) : Int) = d := by omega
        dsimp only at h4
        rw [e] at h4
        exact h4
      obtain ⟨tl, htl0, ht⟩ := ht
      have hl5 : (upd (upd (upd H2 p (.lst pl2)) l5 (.lst [.int 99, .int 0, .int 0, .int 0, .int 1, .int 2])) p (.lst pl3)) l5 = some (.lst [.int 99, .int 0, .int 0, .int 0, .int 1, .int 2]) := by
        rw [upd_ne (w2.free nl5).2.1]; exact upd_same
      refine ⟨l5, _, _, _, rfl, rfl, SqL.of hl5, ht, ?_⟩
      generalize upd (upd (upd H2 p (.lst pl2)) l5 (.lst [.int 99, .int 0, .int 0, .int 0, .int 1, .int 2])) p (.lst pl3) = H3 at w4
      refine ⟨_, rfl, _, ns.length, rfl, .inl ⟨_, SN w4, hlen2.symm⟩, ?_⟩
      refine ⟨(ns.length : Int), rfl, by omega, by omega, for_range (lo := 0) (n := ((ns.length : Nat) : Int).toNat) (fun i σ H' => ∃ (last : Str) (ta : Addr) (as tas : List Addr) (rs : List Rd) (prs : List (Str × Str)) (sp' : Int) (k near tips start others goal holds place : Option V),
        Wd p rl ta H as tas rs prs H' ∧ rs.map Rd.name = ns.take i ∧ (∀ r ∈ rs, RideOk ps r) ∧ (∀ r ∈ prs, PairOk ps r) ∧ 0 ≤ sp' ∧ sp' + unk rs = sp ∧ σ = rdS p na pa st sp' rl last ta pt ch tl k near tips start others goal holds place) ?_ ?_ ?_⟩
      · exact ⟨"", ta, [], [], [], [], sp, _, _, _, _, _, _, _, _, w4, by simp, (fun r h => by cases h), (fun r h => by cases h), hsp0, by simp [unk], rfl⟩
      · rintro i σ H4 hi ⟨last, ta, as, tas, rs, prs, sp', v11, v12, v13, v14, v15, v16, v17, v18, w5, hnames, hok, hpo, hs0, hs1, rfl⟩
        have hi : i < ns.length := by omega
        have hrsl : rs.length = i := by
          have := congrArg List.length hnames
          rw [List.length_map, List.length_take] at this
          omega
        refine ⟨_, rfl, pa, _, rfl, .inl (SP w5), fun l nl => ?_⟩
        have w6 := w5.ex (Evl.Ex.new (o := .lst (ps.map V.str)) nl)
        dsimp only [gName]
        refine cutI (fun σ H' => ∃ (an : Addr) (nr : List Str), Wd p rl ta H as tas rs prs H' ∧ H' an = some (.lst (nr.map V.str)) ∧ an ≠ p ∧ nr.Nodup ∧ (∀ x ∈ nr, x ∈ ps) ∧ 1 ≤ nr.length ∧ nr.length ≤ 12 ∧ σ = rdS p na pa st sp' rl last ta pt ch tl (some (.int (0 + (i : Int)))) (some (.ref an)) v13 v14 v15 v16 v17 v18) (fun σ H5 h5 => ?_) (fun nx h => ?_)
        · obtain ⟨an, nr, w7, han, anp, nrnd, nrsub, nr1, nr12, rfl⟩ := h5
          refine cutI (fun σ H' => ∃ (ta : Addr) (tas : List Addr) (prs : List (Str × Str)), Wd p rl ta H as tas rs prs H' ∧ H' an = some (.lst (nr.map V.str)) ∧ (∀ r ∈ prs, PairOk ps r) ∧ σ = rdS p na pa st sp' rl last ta pt ch tl (some (.int (0 + (i : Int)))) (some (.ref an)) v13 v14 v15 v16 v17 v18) (fun σ H6 h6 => ?_) (fun nx h => ?_)
          · obtain ⟨ta, tas, prs, w8, han, hpo, rfl⟩ := h6
            refine ⟨_, rfl, an, _, rfl, .inl (SqL.of han), fun tp ntp => ?_⟩
            have w9 := w8.ex (Evl.Ex.new (o := .lst (nr.map V.str)) ntp)
            obtain ⟨t0, tpp, tprl, tpta⟩ := w8.free ntp
            have htp : upd H6 tp (.lst (nr.map V.str)) tp = some (.lst (nr.map V.str)) := upd_same
            generalize upd H6 tp (.lst (nr.map V.str)) = H7 at w9 htp
            dsimp only [gName]
            refine cutI (fun σ H' => ∃ ts : List Str, Wd p rl ta H as tas rs prs H' ∧ H' tp = some (.lst (ts.map V.str)) ∧ ts.Nodup ∧ (∀ x ∈ ts, x ∈ ps ∨ x = "street") ∧ 2 ≤ ts.length ∧ ts.length ≤ 13 ∧ σ = rdS p na pa st sp' rl last ta pt ch tl (some (.int (0 + (i : Int)))) (some (.ref an)) (some (.ref tp)) v14 v15 v16 v17 v18) (fun σ H8 h8 => ?_) (fun nx h => ?_)
            · obtain ⟨ts, w10, htp, tsnd, tsub, ts2, ts13, rfl⟩ := h8
              obtain ⟨pl5, hp5, hpl5⟩ := w10.pool
              refine ⟨_, rfl, _, rfl, _, rfl, _, ts.length, rfl, .inl ⟨_, SqL.of htp, (List.length_map ..).symm⟩, p, ts.length, pl5, rfl, hp5, hpl5, by omega, by omega, fun d pl6 hd0 hd1 hpl6 => ?_⟩
              obtain ⟨s0, hs0m, hs0a⟩ := at_mem hd0 hd1
              have w11 := w10.draw hpl6
              have htp : upd H8 p (.lst pl6) tp = some (.lst (ts.map V.str)) := by rw [upd_ne tpp]; exact htp
              refine ⟨tp, _, d, .str s0, rfl, rfl, SqL.of htp, hs0a, ?_⟩
              generalize upd H8 p (.lst pl6) = H9 at w11 htp
              dsimp only [gName]
              refine cutI (fun σ H' => ∃ s0 : Str, Wd p rl ta H as tas rs prs H' ∧ H' tp = some (.lst (ts.map V.str)) ∧ s0 ∈ ts ∧ σ = rdS p na pa st sp' rl last ta pt ch tl (some (.int (0 + (i : Int)))) (some (.ref an)) (some (.ref tp)) (some (.str s0)) v15 v16 v17 v18) (fun σ H10 h10 => ?_) (fun nx h => ?_)
              · obtain ⟨s0, w12, htp, hs0m, rfl⟩ := h10
                refine q_asgP (ev_lcL (p := fun x => decide (x ≠ s0)) (g := V.str) ts V.str (Evl.ev_var rfl) (SqL.of htp) (by omega) (fun x => rfl) (fun x hx H2 e2 H3 e3 Q2 k => ⟨_, rfl, _, rfl, rfl, _, rfl, (ne_dec x s0) ▸ k H3 (Evl.Ex.refl _)⟩) fun x hx hp H2 e2 => Evl.ev_var rfl) fun v H11 e11 ⟨D, hv, hD, hH11⟩ => ?_
                subst hv
                have w13 := w12.ex e11
                obtain ⟨pl7, hp7, hpl7⟩ := w13.pool
                have hos : ∃ os : List Str, ts.filter (fun x => decide (x ≠ s0)) = os ∧ 1 ≤ os.length ∧ os.length ≤ 13 ∧ ∀ x ∈ os, x ∈ ts ∧ x ≠ s0 := by
                  refine ⟨_, rfl, ?_, Nat.le_trans (List.length_filter_le _ _) ts13, fun x hx => ?_⟩
                  · cases ts with
                    | nil => simp at ts2
                    | cons a ts =>
                      cases ts with
                      | nil => simp at ts2
                      | cons b ts =>
                        have hab : a ≠ b := fun e => (List.nodup_cons.mp tsnd).1 (by rw [e]; exact List.mem_cons_self)
                        have hm : ∃ x, x ∈ (a :: b :: ts).filter (fun x => decide (x ≠ s0)) := by
                          by_cases ha : a = s0
                          · exact ⟨b, List.mem_filter.mpr ⟨by simp, by simp; exact fun e => hab (ha.trans e.symm)⟩⟩
                          · exact ⟨a, List.mem_filter.mpr ⟨by simp, by simp; exact ha⟩⟩
                        obtain ⟨x, hx⟩ := hm
                        exact List.length_pos_of_mem hx
                  · obtain ⟨h1, h2⟩ := List.mem_filter.mp hx
                    exact ⟨h1, of_decide_eq_true h2⟩
                obtain ⟨os, hos0, hos1, hos13, hosm⟩ := hos
                rw [hos0] at hH11
                refine ⟨_, rfl, _, rfl, _, rfl, _, os.length, rfl, .inl ⟨_, SqL.of hH11, (List.length_map ..).symm⟩, p, os.length, pl7, rfl, hp7, hpl7, by omega, by omega, fun d pl8 hd0 hd1 hpl8 => ?_⟩
                obtain ⟨g0, hg0m, hg0a⟩ := at_mem hd0 hd1
                have w14 := w13.draw hpl8
                have hDp : D ≠ p := fun e => by
                  obtain ⟨pl9, hp9, _⟩ := w12.pool
                  rw [e, hp9] at hD; cases hD
                refine ⟨D, _, d, .str g0, rfl, rfl, SqL.of (show upd H11 p (.lst pl8) D = _ by rw [upd_ne hDp]; exact hH11), hg0a, ?_⟩
                generalize upd H11 p (.lst pl8) = H12 at w14
                dsimp only [gName]
                refine cutI (fun σ H' => ∃ (s1 g1 : Str) (ta : Addr) (tas : List Addr) (prs : List (Str × Str)), Wd p rl ta H as tas rs prs H' ∧ (∀ r ∈ prs, PairOk ps r) ∧ (s1 ∈ ps ∨ s1 = "street") ∧ (g1 ∈ ps ∨ g1 = "street") ∧ s1 ≠ g1 ∧ σ = rdS p na pa st sp' rl last ta pt ch tl (some (.int (0 + (i : Int)))) (some (.ref an)) (some (.ref tp)) (some (.str s1)) (some (.ref D)) (some (.str g1)) v17 v18) (fun σ H13 h13 => ?_) (fun nx h => ?_)
                · obtain ⟨s1, g1, ta, tas, prs, w15, hpo, hs1p, hg1p, hsg, rfl⟩ := h13
                  dsimp only [tSeq, tAsg, tC, gName]
                  refine cutI (fun σ H' => ∃ (sp' : Int) (hv : Bool), Wd p rl ta H as tas rs prs H' ∧ 0 ≤ sp' ∧ sp' + unk rs + (if hv then 0 else 1) = sp ∧ (hv = false → s1 ≠ "street" ∧ g1 ≠ "street") ∧ σ = rdS p na pa st sp' rl last ta pt ch tl (some (.int (0 + (i : Int)))) (some (.ref an)) (some (.ref tp)) (some (.str s1)) (some (.ref D)) (some (.str g1)) (some (.bl hv)) v18) (fun σ H14 h14 => ?_) (fun nx h => ?_)
                  · obtain ⟨sp', hv, w16, hs0, hs1, hhv, rfl⟩ := h14
                    have hna : atI (ns.map V.str) (0 + (i : Int)) = some (.str ns[i]) := by
                      rw [Int.zero_add]
                      exact atI_nat (by rw [List.getElem?_map, List.getElem?_eq_getElem hi]; rfl)
                    refine ⟨_, rfl, Or.inl ⟨rfl, _, SqL.of w16.hrl⟩, _, rfl, _, rfl, na, _, _, .str ns[i], rfl, rfl, SN w16, hna, _, rfl, _, rfl, _, rfl, by rw [sizeLine_eq]; exact (by decide : 4 ≤ 16777216), fun t nt => ?_⟩
                    have w17 := w16.ex (Evl.Ex.new (o := .tup [.str ns[i], .str s1, .str g1, .bl hv]) nt)
                    have ht : upd H14 t (.tup [.str ns[i], .str s1, .str g1, .bl hv]) t = some (.tup (rdV ⟨ns[i], s1, g1, hv⟩)) := upd_same
                    obtain ⟨pl9, hp9, hpl9⟩ := w17.pool
                    have hasl : as.length = i := by
                      have := paired_len w17.ras
                      rw [List.length_map] at this
                      omega
                    refine ⟨rl, _, _, rfl, rfl, w17.hrl, by rw [List.length_map, sizeLine_eq]; omega, ?_⟩
                    refine ⟨_, rfl, g1, ta, as ++ [t], tas, rs ++ [⟨ns[i], s1, g1, hv⟩], prs, sp', _, _, _, _, _, _, _, _, ⟨⟨pl9, by rw [upd_ne w17.okp.1.symm]; exact hp9, hpl9⟩, w17.fr.new nrl, by rw [upd_same, List.map_append]; rfl, ?_, by rw [upd_ne w17.okp.2.2.symm]; exact w17.htl, w17.tas.keep (NL.upd w17.hrl), w17.okp⟩, ?_, fun r hr => ?_, hpo, hs0, ?_, rfl⟩
                    · rw [List.map_append]
                      exact (w17.ras.snoc ht).keep (NL.upd w17.hrl)
                    · rw [List.map_append, hnames, List.take_succ, List.getElem?_eq_getElem hi]
                      rfl
                    · rcases List.mem_append.mp hr with z | z
                      · exact hok r z
                      · rw [List.mem_singleton.mp z]
                        exact ⟨hs1p, hg1p, hsg, hhv⟩
                    · rw [unk_snoc]
                      cases hv <;> simp at hs1 ⊢ <;> omega
                  · have els : ∀ H', Wd p rl ta H as tas rs prs H' → nx (rdS p na pa st sp' rl last ta pt ch tl (some (.int (0 + (i : Int)))) (some (.ref an)) (some (.ref tp)) (some (.str s1)) (some (.ref D)) (some (.str g1)) (some (.bl true)) v18) H' := fun H' w => h _ _ ⟨sp', true, w, hs0, by simp; omega, (fun e => by cases e), rfl⟩
                    refine ⟨_, rfl, _, _, rfl, rfl, _, rfl, ?_⟩
                    refine ite2 (fun c => ?_) (fun c => iteF (els _ w15))
                    have c := of_decide_eq_true c
                    refine ⟨_, rfl, rfl, _, rfl, ?_⟩
                    refine ite2 (fun c1 => ?_) (fun c => iteF (els _ w15))
                    refine ⟨_, rfl, rfl, _, rfl, ?_⟩
                    refine ite2 (fun c2 => ?_) (fun c => iteF (els _ w15))
                    obtain ⟨pl9, hp9, hpl9⟩ := w15.pool
                    refine ⟨_, rfl, p, 4, pl9, rfl, hp9, hpl9, by decide, by decide, fun d pl10 hd0 hd1 hpl10 => ?_⟩
                    refine ⟨rfl, _, rfl, ?_⟩
                    refine ite2 (fun c3 => ?_) (fun c => els _ (w15.draw hpl10))
                    rw [← ne_dec] at c1 c2
                    refine ⟨_, rfl, _, _, rfl, rfl, h _ _ ⟨sp' - 1, false, w15.draw hpl10, by omega, by simp; omega, fun _ => ⟨of_decide_eq_true c1, of_decide_eq_true c2⟩, rfl⟩⟩
                · refine ⟨_, rfl, _, tas.length, rfl, .inl ⟨_, SqL.of w14.htl, (List.length_map ..).symm⟩, _, _, rfl, rfl, _, rfl, ?_⟩
                  refine ite2 (fun c => ?_) (fun c => ?_)
                  · have c := of_decide_eq_true c
                    have hw := w14.tas
                    cases tas with
                    | nil => simp at c
                    | cons t tas =>
                      cases prs with
                      | nil => cases hw
                      | cons r prs =>
                        have ht : H12 t = some (.tup (prV r)) := by cases hw with | cons x _ => exact x
                        obtain ⟨x1, x2, x3⟩ := hpo r List.mem_cons_self
                        refine ⟨_, rfl, ta, _, _, _, rfl, rfl, SqL.of w14.htl, atI_nat (j := 0) rfl, t, _, _, _, rfl, rfl, SqT.of ht, atI_nat (j := 0) rfl, ?_⟩
                        refine ⟨_, rfl, ta, _, _, _, rfl, rfl, SqL.of w14.htl, atI_nat (j := 0) rfl, t, _, _, _, rfl, rfl, SqT.of ht, atI_nat (j := 1) rfl, ?_⟩
                        refine ⟨_, rfl, _, rfl, ta, _, rfl, SqL.of w14.htl, fun l3 nl3 => ?_⟩
                        obtain ⟨y1, y2, y3, y4⟩ := w14.free nl3
                        have e : cutV ((t :: tas).map V.ref) (some 1) none = tas.map V.ref := cut_drop _ 1 (by simp)
                        have w15 := w14.ex (Evl.Ex.new (o := .lst (cutV ((t :: tas).map V.ref) (some 1) none)) nl3)
                        refine h _ _ ⟨r.1, r.2, l3, tas, prs, ⟨w15.pool, w15.fr, w15.hrl, w15.ras, by rw [upd_same, e], w15.tas.tail, w15.okp.1, y2, y3.symm⟩, fun r hr => hpo r (List.mem_cons_of_mem _ hr), .inl x1, .inl x2, x3, rfl⟩
                  · exact h _ _ ⟨s0, g0, ta, tas, prs, w14, hpo, tsub _ hs0m, tsub _ (hosm _ hg0m).1, (hosm _ hg0m).2.symm, rfl⟩
              · have els : ∀ H', Wd p rl ta H as tas rs prs H' → H' tp = some (.lst (ts.map V.str)) → nx (rdS p na pa st sp' rl last ta pt ch tl (some (.int (0 + (i : Int)))) (some (.ref an)) (some (.ref tp)) (some (.str s0)) v15 v16 v17 v18) H' := fun H' w ht => h _ _ ⟨s0, w, ht, hs0m, rfl⟩
                refine ⟨_, rfl, rfl, _, rfl, ?_⟩
                refine ite2 (fun c => ?_) (fun c => iteF (els _ w11 htp))
                refine ⟨_, rfl, _, rfl, tp, _, rfl, Or.inl (SqL.of htp), rfl, flat_strs ts, _, rfl, ?_⟩
                rw [inV_str]
                refine ite2 (fun c1 => ?_) (fun c => iteF (els _ w11 htp))
                obtain ⟨pl9, hp9, hpl9⟩ := w11.pool
                refine ⟨_, rfl, p, 4, pl9, rfl, hp9, hpl9, by decide, by decide, fun d pl10 hd0 hd1 hpl10 => ?_⟩
                have htp : upd H9 p (.lst pl10) tp = some (.lst (ts.map V.str)) := by rw [upd_ne tpp]; exact htp
                refine ⟨_, _, rfl, rfl, _, rfl, ?_⟩
                refine ite2 (fun c2 => ?_) (fun c => els _ (w11.draw hpl10) htp)
                exact ⟨_, rfl, h _ _ ⟨last, w11.draw hpl10, htp, by simpa using c1, rfl⟩⟩
            · have app : ∀ H', Wd p rl ta H as tas rs prs H' → H' tp = some (.lst (nr.map V.str)) → nx (rdS p na pa st sp' rl last ta pt ch tl (some (.int (0 + (i : Int)))) (some (.ref an)) (some (.ref tp)) v14 v15 v16 v17 v18) (upd H' tp (.lst (nr.map V.str ++ [.str "street"]))) := fun H' w ht =>
                h _ _ ⟨nr ++ [("street" : Str)], w.oth ht t0 tpp tprl tpta, by rw [upd_same, List.map_append]; rfl, List.nodup_append.mpr ⟨nrnd, by simp, fun a ha b hb e => by
                  rw [List.mem_singleton.mp hb] at e
                  have := hnm a (nrsub a ha)
                  rw [e] at this
                  exact absurd this (by decide +kernel)⟩, fun x hx => by
                  rcases List.mem_append.mp hx with z | z
                  · exact .inl (nrsub x z)
                  · exact .inr (List.mem_singleton.mp z), by rw [List.length_append]; simp; omega, by rw [List.length_append]; simp; omega, rfl⟩
              have hsl : (nr.map V.str).length < sizeLine := by rw [List.length_map, sizeLine_eq]; omega
              have els : ∀ H', 2 ≤ nr.length → Wd p rl ta H as tas rs prs H' → H' tp = some (.lst (nr.map V.str)) → nx (rdS p na pa st sp' rl last ta pt ch tl (some (.int (0 + (i : Int)))) (some (.ref an)) (some (.ref tp)) v14 v15 v16 v17 v18) H' := fun H' h2 w ht => h _ _ ⟨nr, w, ht, nrnd, fun x hx => .inl (nrsub x hx), h2, by omega, rfl⟩
              refine ⟨_, rfl, _, nr.length, rfl, .inl ⟨_, SqL.of htp, (List.length_map ..).symm⟩, _, _, rfl, rfl, _, rfl, ?_⟩
              refine ite2 (fun c => iteT ?_) (fun c => ?_)
              · exact ⟨_, rfl, Or.inl ⟨rfl, _, SqL.of htp⟩, tp, _, _, rfl, rfl, htp, hsl, app _ w9 htp⟩
              · have c : ¬ ((nr.length : Int) < 2) := fun h => c (decide_eq_true h)
                refine ⟨_, rfl, rfl, _, rfl, ?_⟩
                refine ite2 (fun c1 => ?_) (fun c1 => iteF (els _ (by omega) w9 htp))
                obtain ⟨pl9, hp9, hpl9⟩ := w9.pool
                refine ⟨_, rfl, p, 4, pl9, rfl, hp9, hpl9, by decide, by decide, fun d pl10 hd0 hd1 hpl10 => ?_⟩
                have htp : upd H7 p (.lst pl10) tp = some (.lst (nr.map V.str)) := by rw [upd_ne tpp]; exact htp
                refine ⟨rfl, _, rfl, ?_⟩
                refine ite2 (fun c2 => ?_) (fun c2 => els _ (by omega) (w9.draw hpl10) htp)
                exact ⟨_, rfl, Or.inl ⟨rfl, _, SqL.of htp⟩, tp, _, _, rfl, rfl, htp, hsl, app _ (w9.draw hpl10) htp⟩
          · refine ⟨_, rfl, _, tas.length, rfl, .inl ⟨_, SqL.of w7.htl, (List.length_map ..).symm⟩, rfl, _, rfl, ?_⟩
            have els : nx (rdS p na pa st sp' rl last ta pt ch tl (some (.int (0 + (i : Int)))) (some (.ref an)) v13 v14 v15 v16 v17 v18) H5 := h _ _ ⟨ta, tas, prs, w7, han, hpo, rfl⟩
            refine ite2 (fun c => ?_) (fun c => iteF els)
            refine ⟨_, rfl, _, nr.length, rfl, .inl ⟨_, SqL.of han, (List.length_map ..).symm⟩, _, _, rfl, rfl, _, rfl, ?_⟩
            refine ite2 (fun c1 => ?_) (fun c => iteF els)
            refine ⟨_, rfl, _, ns.length, rfl, .inl ⟨_, SN w7, hlen2.symm⟩, _, rfl, _, _, rfl, rfl, _, rfl, _, _, rfl, rfl, _, _, rfl, rfl, _, rfl, ?_⟩
            refine ite2 (fun c2 => ?_) (fun c => els)
            have c1 := of_decide_eq_true c1
            have c2 := of_decide_eq_true c2
            obtain ⟨pl5, hp5, hpl5⟩ := w7.pool
            refine ⟨_, rfl, _, rfl, _, rfl, _, ns.length, rfl, .inl ⟨_, SN w7, hlen2.symm⟩, _, rfl, _, _, rfl, rfl, _, rfl, _, _, rfl, rfl, p, an, _, pl5, nr, rfl, hp5, hpl5, SqL.of han, nrnd, by omega, nr12, by omega, by omega, fun prs' as' l' pl' H' hq1 hq2 hq3 hq4 hq5 hq6 hq7 => ?_⟩
            obtain ⟨g1, g2, g3, g4⟩ := w7.free hq2
            refine h _ _ ⟨l', as', prs', ⟨⟨pl', hq5, hq6⟩, w7.fr.trans hq7, hq7 _ _ w7.okp.1 w7.hrl, w7.ras.keep (NL.fr hq7 hp5), hq3, hq4, w7.okp.1, g2, g3.symm⟩, hq7 _ _ anp han, fun r hr => ?_, rfl⟩
            obtain ⟨x1, x2, x3⟩ := hq1 r hr
            exact ⟨nrsub _ x1, nrsub _ x2, x3⟩
        · refine ⟨_, rfl, pt, rfl, ?_⟩
          refine ite2 (fun c => ?_) (fun c => ?_)
          · have hpt' := hpt c
            have e0 : (ps.length : Int) / 2 = ((ps.length / 2 : Nat) : Int) := by omega
            refine ⟨_, rfl, _, rfl, _, ps.length, rfl, .inl ⟨_, SP w6, hlen.symm⟩, _, _, rfl, rfl, ⟨by decide, by decide⟩, _, rfl, pa, _, rfl, SP w6, fun l2 nl2 => ?_⟩
            have w7 := w6.ex (Evl.Ex.new (o := .lst (cutV (ps.map V.str) none (some ((ps.length : Int) / 2)))) nl2)
            refine ⟨_, rfl, _, _, rfl, rfl, .inl ⟨by decide, by decide⟩, _, rfl, _, ns.length, rfl, .inl ⟨_, SN w7, hlen2.symm⟩, _, _, rfl, rfl, _, rfl, ?_⟩
            refine ite2 (fun c2 => ?_) (fun c2 => ?_)
            · refine ⟨_, rfl, _, rfl, _, ps.length, rfl, .inl ⟨_, SP w7, hlen.symm⟩, _, _, rfl, rfl, ⟨by decide, by decide⟩, _, rfl, pa, _, rfl, SP w7, fun l3 nl3 => ?_⟩
              refine h _ _ ⟨l3, ps.drop (ps.length / 2), w7.ex (Evl.Ex.new nl3), ?_, (w7.free nl3).2.1, hnd.sublist (List.drop_sublist _ _), fun x hx => List.mem_of_mem_drop hx, by rw [List.length_drop]; omega, by rw [List.length_drop]; omega, rfl⟩
              rw [upd_same, e0, cut_drop _ _ (by rw [hlen]; omega), List.map_drop]
            · refine h _ _ ⟨l2, ps.take (ps.length / 2), w7, ?_, (w6.free nl2).2.1, hnd.sublist (List.take_sublist _ _), fun x hx => List.mem_of_mem_take hx, by rw [List.length_take]; omega, by rw [List.length_take]; omega, rfl⟩
              rw [upd_same, e0, cut_take _ _ (by omega)]
          · exact h _ _ ⟨l, ps, w6, upd_same, (w5.free nl).2.1, hnd, fun _ h => h, hl1, hl12, rfl⟩
      · rintro σ H4 ⟨last, ta, as, tas, rs, prs, sp', v11, v12, v13, v14, v15, v16, v17, v18, w5, hnames, hok, hpo, hs0, hs1, rfl⟩
        obtain ⟨pl5, hp5, hpl5⟩ := w5.pool
        exact ⟨_, rfl, q rs as rl pl5 H4 (by rw [hnames]; exact List.take_of_length_le (by omega)) hok (by omega) nrl w5.hrl w5.ras hp5 hpl5 w5.fr⟩
    · refine ⟨_, rfl, _, ps.length, rfl, .inl ⟨_, SP w0, hlen.symm⟩, _, _, rfl, rfl, _, rfl, ?_⟩
      refine ite2 (fun c => ?_) (fun c => ?_)
      · have c1 : 3 < ps.length := by have := of_decide_eq_true c; omega
        obtain ⟨pl1, hp1, hpl1⟩ := w0.pool
        refine ⟨_, rfl, p, 2, pl1, rfl, hp1, hpl1, by decide, by decide, fun d pl2 hd0 hd1 hpl2 => ?_⟩
        exact ⟨rfl, h _ _ ⟨_, fun _ => c1, w0.draw hpl2, rfl⟩⟩
      · exact h _ _ ⟨false, (fun h => by cases h), w0, rfl⟩
end
end Rk

namespace Rk
open PySem PySem.Spec PyProof.Rows L2 He Rb C8 SX
/-! ### stations -/
structure Stn where
  name : Str
  docks : Int
  bikes : Int
def stV (s : Stn) : List V := [.str s.name, .int s.docks, .int s.bikes]
structure StnOk (s : Stn) : Prop where
  d1 : 1 ≤ s.docks
  d2 : s.docks ≤ 999999
  b1 : 0 ≤ s.bikes
  b2 : s.bikes ≤ s.docks
structure Wl (p l : Addr) (H0 : Hp) (as : List Addr) (rows : List (List V)) (H : Hp) : Prop where
  pool : ∃ pl, H p = some (.lst pl) ∧ PoolL pl
  fr : Fr p H0 H
  hl : H l = some (.lst (as.map V.ref))
  ht : TupsAt H as rows
  ne : l ≠ p
theorem Wl.ex {p l : Addr} {H0 H H' : Hp} {as : List Addr} {rows : List (List V)} (w : Wl p l H0 as rows H) (e : Ex H H') : Wl p l H0 as rows H' := by
  obtain ⟨pl, h1, h2⟩ := w.pool
  exact ⟨⟨pl, e _ _ h1, h2⟩, w.fr.trans (Fr.ex e), e _ _ w.hl, w.ht.keep (NL.ex e), w.ne⟩
theorem Wl.draw {p l : Addr} {H0 H : Hp} {as : List Addr} {rows : List (List V)} {pl : List V} (w : Wl p l H0 as rows H) (h : PoolL pl) : Wl p l H0 as rows (upd H p (.lst pl)) := by
  obtain ⟨pl0, h1, h2⟩ := w.pool
  exact ⟨⟨pl, upd_same, h⟩, w.fr.trans Fr.upd, by rw [upd_ne w.ne]; exact w.hl, w.ht.keep (NL.upd h1), w.ne⟩
theorem Wl.snoc {p l t : Addr} {H0 H : Hp} {as : List Addr} {rows : List (List V)} {r : List V} (w : Wl p l H0 as rows H) (h0 : H0 l = none) (h : H t = some (.tup r)) : Wl p l H0 (as ++ [t]) (rows ++ [r]) (upd H l (.lst (as.map V.ref ++ [.ref t]))) := by
  obtain ⟨pl, h1, h2⟩ := w.pool
  exact ⟨⟨pl, by rw [upd_ne w.ne.symm]; exact h1, h2⟩, w.fr.new h0, by rw [upd_same, List.map_append]; rfl, (w.ht.snoc h).keep (NL.upd w.hl), w.ne⟩
theorem Wl.len {p l : Addr} {H0 H : Hp} {as : List Addr} {rows : List (List V)} (w : Wl p l H0 as rows H) : as.length = rows.length := paired_len w.ht
def spFree (K : PySem.W.Frag) : Sp := fun vs H Q _ => ∃ (p na : Addr) (big : Int) (pl : List V) (ns : List Str), vs = [.ref p, .ref na, .int big] ∧ H p = some (.lst pl) ∧ PoolL pl ∧ SqL K H na (ns.map V.str) ∧ ns.length ≤ 24 ∧
  ∀ (ss : List Stn) (as : List Addr) (l : Addr) (pl' : List V) (H' : Hp), ss.map Stn.name = ns → (∀ s ∈ ss, StnOk s) → H l = none → H' l = some (.lst (as.map V.ref)) → TupsAt H' as (ss.map stV) → H' p = some (.lst pl') → PoolL pl' → Fr p H H' → Q (.ref l) H'
abbrev frS (p na sl : Addr) (big : Int) (a b c d : Option V) : L2.St := [some (.ref p), some (.ref na), some (.int big), some (.ref sl), a, b, c, d]
abbrev N__law_free : List Str := ["pool", "names", "big", "stations", "name", "docks", "way", "bikes"]
theorem sc__law_free : FnScope N__law_free ["pool", "names", "big"] (defScope s__law_free) := ⟨rfl, rfl, rfl, by decide +kernel, rfl, by decide +kernel, by decide +kernel⟩
abbrev N__law_lists : List Str := ["pool", "size", "count", "names", "titles", "others", "street", "rides", "title"]
theorem sc__law_lists : FnScope N__law_lists ["pool"] (defScope s__law_lists) := ⟨rfl, rfl, rfl, by decide +kernel, rfl, by decide +kernel, by decide +kernel⟩
section
variable {P : Program} {w : World} {K : PySem.W.Frag} {mg : Str → Option Value} {base : Heap}
theorem ok_free (T : Txt K mg) : Cal P w K mg base 2 "_law_free" (spFree K) := by
  have C__law_take := ok_take (P := P) (w := w) (base := base) T
  obtain ⟨fd, F⟩ := T.d__law_free
  refine cal_of F (fn_ok0 F sc__law_free (fun vs H Q E h => ?_) (fun cdv A outer s H vs Q E hr h => ?_)) T.m__law_free fun _ _ _ _ _ _ us hl => match us, hl with | [_, _, _], _ => rfl
  · obtain ⟨p, na, big, pl, ns, rfl, _⟩ := h
    rfl
  · obtain ⟨p, na, big, pl, ns, rfl, hp, hpl, hN, hns, q⟩ := h
    have SN : ∀ {l : Addr} {as : List Addr} {rows : List (List V)} {H' : Hp}, Wl p l H as rows H' → SqL K H' na (ns.map V.str) := fun w => sqL_fr hN hp (strs_ne hpl) w.fr
    refine ⟨_, pss_cons (ps_set (i := 3) sc__law_free.nd rfl (Or.inl rfl) (pe_lst (pa_nil)))
      (pss_cons (ps_for PassesOwn.never rfl (pi_listK (K := K) (pv 1)) (pg_name (i := 4) sc__law_free.nd rfl (Or.inl rfl))
      (pss_cons (ps_set (i := 5) sc__law_free.nd rfl (Or.inl rfl) (pe_op op_add (pe_int) (pe_cal C__law_take hr (by decide) rfl (pa_cons (pv 0) (pa_cons (pe_int) (pa_nil))))))
      (pss_cons (ps_if (PW.pt (pw_and (pt_cmpR op_eq (pv 2) (pe_int) (nomark _)) (pw_and1 (pt_cmpR op_eq (pe_cal C__law_take hr (by decide) rfl (pa_cons (pv 0) (pa_cons (pe_int) (pa_nil)))) (pe_int) (nomark _)))))
      (pss_one (ps_set (i := 5) sc__law_free.nd rfl (Or.inl rfl) (pe_op op_add (pe_int) (pe_cal C__law_take hr (by decide) rfl (pa_cons (pv 0) (pa_cons (pe_int) (pa_nil)))))))
      (pss_nil))
      (pss_cons (ps_set (i := 6) sc__law_free.nd rfl (Or.inl rfl) (pe_cal C__law_take hr (by decide) rfl (pa_cons (pv 0) (pa_cons (pe_int) (pa_nil)))))
      (pss_cons (ps_set (i := 7) sc__law_free.nd rfl (Or.inl rfl) (pe_int))
      (pss_cons (ps_if (pt_cmpR op_eq (pv 6) (pe_int) (nomark _))
      (pss_one (ps_set (i := 7) sc__law_free.nd rfl (Or.inl rfl) (pv 5)))
      (pss_nil))
      (pss_cons (ps_if (pt_cmpR op_ge (pv 6) (pe_int) (nomark _))
      (pss_one (ps_set (i := 7) sc__law_free.nd rfl (Or.inl rfl) (pe_cal C__law_take hr (by decide) rfl (pa_cons (pv 0) (pa_cons (pe_op op_add (pv 5) (pe_int)) (pa_nil))))))
      (pss_nil))
      (pss_one (ps_expr (pe_bmK (K := K) PySem.F.plainAttrs_list PySem.F.slot_list_append PySem.F.type_list_append mt_append (pv 3) (pa_cons (pe_tup (pa_cons (pv 4) (pa_cons (pv 5) (pa_cons (pv 7) (pa_nil))))) (pa_nil))))))))))))
      (pss_one (ps_ret (pv 3)))), ?_⟩
    refine ⟨by rw [sizeLine_eq]; decide, fun sl nsl => ?_⟩
    have w0 : Wl p sl H [] [] (upd H sl (.lst [])) := ⟨⟨pl, (Evl.Ex.new nsl) _ _ hp, hpl⟩, Fr.ex (Evl.Ex.new nsl), upd_same, .nil, (ne_of_none hp nsl).symm⟩
    refine ⟨_, rfl, na, rfl, ⟨_, SN w0⟩, for_list (xs := ns.map V.str) (fun i σ H' => ∃ (as : List Addr) (ss : List Stn) (a b c d : Option V), Wl p sl H as (ss.map stV) H' ∧ ss.map Stn.name = ns.take i ∧ (∀ s ∈ ss, StnOk s) ∧ σ = frS p na sl big a b c d) ?_ ?_ ?_ ?_⟩
    · exact ⟨[], [], none, none, none, none, w0, by simp, (fun s h => by cases h), rfl⟩
    · rintro i σ H' hi ⟨as, ss, a, b, c, d, w1, _⟩
      exact SN w1
    · rintro i x σ H4 hx ⟨as, ss, a, b, c, d, w1, hnames, hok, rfl⟩
      rw [List.getElem?_map] at hx
      have hi : i < ns.length := by
        apply Classical.byContradiction
        intro hc
        rw [List.getElem?_eq_none (by omega)] at hx
        cases hx
      rw [List.getElem?_eq_getElem hi] at hx
      cases hx
      have hssl : ss.length = i := by
        have := congrArg List.length hnames
        rw [List.length_map, List.length_take] at this
        omega
      obtain ⟨pl1, hp1, hpl1⟩ := w1.pool
      refine ⟨_, rfl, p, 4, pl1, rfl, hp1, hpl1, by decide, by decide, fun d1 pl2 hd0 hd1 hpl2 => ?_⟩
      have w2 := w1.draw hpl2
      refine ⟨_, _, rfl, rfl, ?_⟩
      dsimp only [gName]
      refine cutI (fun σ H' => ∃ dk : Int, Wl p sl H as (ss.map stV) H' ∧ 1 ≤ dk ∧ dk ≤ 999999 ∧ σ = frS p na sl big (some (.str ns[i])) (some (.int dk)) c d) (fun σ H5 h5 => ?_) (fun nx h => ?_)
      · obtain ⟨dk, w3, hk0, hk1, rfl⟩ := h5
        obtain ⟨pl3, hp3, hpl3⟩ := w3.pool
        refine ⟨_, rfl, p, 4, pl3, rfl, hp3, hpl3, by decide, by decide, fun wy pl4 hy0 hy1 hpl4 => ?_⟩
        have w4 := w3.draw hpl4
        dsimp only [tSeq, tAsg, tC, gName]
        refine cutI (fun σ H' => ∃ bk : Int, Wl p sl H as (ss.map stV) H' ∧ 0 ≤ bk ∧ bk ≤ dk ∧ σ = frS p na sl big (some (.str ns[i])) (some (.int dk)) (some (.int wy)) (some (.int bk))) (fun σ H6 h6 => ?_) (fun nx h => ?_)
        · obtain ⟨bk, w5, hb0, hb1, rfl⟩ := h6
          refine cutI (fun σ H' => ∃ bk : Int, Wl p sl H as (ss.map stV) H' ∧ 0 ≤ bk ∧ bk ≤ dk ∧ σ = frS p na sl big (some (.str ns[i])) (some (.int dk)) (some (.int wy)) (some (.int bk))) (fun σ H7 h7 => ?_) (fun nx h => ?_)
          · obtain ⟨bk, w6, hb0, hb1, rfl⟩ := h7
            refine ⟨_, rfl, Or.inl ⟨rfl, _, SqL.of w6.hl⟩, _, rfl, _, rfl, _, rfl, by rw [sizeLine_eq]; exact (by decide : 3 ≤ 16777216), fun t nt => ?_⟩
            have w7 := w6.ex (Evl.Ex.new (o := .tup [.str ns[i], .int dk, .int bk]) nt)
            have hl := w7.len
            rw [List.length_map] at hl
            refine ⟨sl, _, _, rfl, rfl, w7.hl, by rw [List.length_map, sizeLine_eq]; omega, as ++ [t], ss ++ [⟨ns[i], dk, bk⟩], _, _, _, _, ?_, ?_, fun s hs => ?_, rfl⟩
            · rw [List.map_append]
              exact w7.snoc nsl upd_same
            · rw [List.map_append, hnames, List.take_succ, List.getElem?_eq_getElem hi]
              rfl
            · rcases List.mem_append.mp hs with z | z
              · exact hok s z
              · rw [List.mem_singleton.mp z]
                exact ⟨hk0, hk1, hb0, hb1⟩
          · refine ⟨_, rfl, _, _, rfl, rfl, _, rfl, ?_⟩
            refine ite2 (fun c => ?_) (fun c => h _ _ ⟨bk, w5, hb0, hb1, rfl⟩)
            obtain ⟨pl5, hp5, hpl5⟩ := w5.pool
            refine ⟨_, rfl, _, rfl, _, _, rfl, rfl, p, dk + 1, pl5, rfl, hp5, hpl5, by omega, by omega, fun d2 pl6 h20 h21 hpl6 => ?_⟩
            exact h _ _ ⟨d2, w5.draw hpl6, h20, by omega, rfl⟩
        · refine ⟨_, rfl, rfl, _, rfl, ?_⟩
          refine ite2 (fun c => ?_) (fun c => h _ _ ⟨0, w4, by omega, by omega, rfl⟩)
          exact ⟨_, rfl, h _ _ ⟨dk, w4, by omega, by omega, rfl⟩⟩
      · have els : ∀ H', Wl p sl H as (ss.map stV) H' → nx (frS p na sl big (some (.str ns[i])) (some (.int (1 + d1))) c d) H' := fun H' w => h _ _ ⟨1 + d1, w, by omega, by omega, rfl⟩
        refine ⟨_, rfl, rfl, _, rfl, ?_⟩
        refine ite2 (fun c => ?_) (fun c => iteF (els _ w2))
        obtain ⟨pl3, hp3, hpl3⟩ := w2.pool
        refine ⟨_, rfl, p, 8, pl3, rfl, hp3, hpl3, by decide, by decide, fun d3 pl4 h30 h31 hpl4 => ?_⟩
        refine ⟨rfl, _, rfl, ?_⟩
        refine ite2 (fun c => ?_) (fun c => els _ (w2.draw hpl4))
        have w3 := w2.draw hpl4
        obtain ⟨pl5, hp5, hpl5⟩ := w3.pool
        refine ⟨_, rfl, p, 999999, pl5, rfl, hp5, hpl5, by decide, by decide, fun d4 pl6 h40 h41 hpl6 => ?_⟩
        exact ⟨_, _, rfl, rfl, h _ _ ⟨1 + d4, w3.draw hpl6, by omega, by omega, rfl⟩⟩
    · rintro σ H4 ⟨as, ss, a, b, c, d, w1, hnames, hok, rfl⟩
      obtain ⟨pl1, hp1, hpl1⟩ := w1.pool
      exact ⟨_, rfl, q ss as sl pl1 H4 (by rw [hnames]; exact List.take_of_length_le (by rw [List.length_map]; exact Nat.le_refl _)) hok nsl w1.hl w1.ht hp1 hpl1 w1.fr⟩
end
end Rk

namespace Rk
open PySem PySem.Spec PyProof.Rows L2 He Rb C8 SX
/-! ### the lists of a town -/
structure TownOk (ss : List Stn) (rs : List Rd) : Prop where
  sl : ss.length ≤ 12
  rl : rs.length ≤ 24
  sn : (ss.map Stn.name).Nodup
  sm : ∀ x ∈ ss.map Stn.name, isNm x = true
  rn : (rs.map Rd.name).Nodup
  rm : ∀ x ∈ rs.map Rd.name, isNm x = true
  so : ∀ s ∈ ss, StnOk s
  ro : ∀ r ∈ rs, RideOk (ss.map Stn.name) r
structure Lists (H : Hp) (l sl rl : Addr) (sa ra : List Addr) (ss : List Stn) (rs : List Rd) : Prop where
  l : H l = some (.lst [.ref sl, .ref rl])
  s : H sl = some (.lst (sa.map V.ref))
  st : TupsAt H sa (ss.map stV)
  r : H rl = some (.lst (ra.map V.ref))
  rt : TupsAt H ra (rs.map rdV)
def spLists : Sp := fun vs H Q _ => ∃ (p : Addr) (pl : List V), vs = [.ref p] ∧ H p = some (.lst pl) ∧ PoolL pl ∧
  ∀ (l sl rl : Addr) (sa ra : List Addr) (ss : List Stn) (rs : List Rd) (H' : Hp), TownOk ss rs → Lists H' l sl rl sa ra ss rs → Fr p H H' → Q (.ref l) H'
structure Bp (p : Addr) (H0 H : Hp) : Prop where
  pool : ∃ pl, H p = some (.lst pl) ∧ PoolL pl
  fr : Fr p H0 H
theorem Bp.ex {p : Addr} {H0 H H' : Hp} (w : Bp p H0 H) (e : Ex H H') : Bp p H0 H' := by
  obtain ⟨pl, h1, h2⟩ := w.pool
  exact ⟨⟨pl, e _ _ h1, h2⟩, w.fr.trans (Fr.ex e)⟩
theorem Bp.draw {p : Addr} {H0 H : Hp} {pl : List V} (w : Bp p H0 H) (h : PoolL pl) : Bp p H0 (upd H p (.lst pl)) := ⟨⟨pl, upd_same, h⟩, w.fr.trans Fr.upd⟩
theorem cut_take2 (ps : List Str) (n : Nat) : cutV (ps.map V.str) none (some (n : Int)) = (ps.take n).map V.str := by
  unfold cutV
  rw [HT.sIx_none, HT.sIx_nat, List.length_map, List.drop_zero, Nat.sub_zero, List.map_take]
  rcases Nat.le_total n ps.length with h | h
  · rw [Nat.min_eq_left h]
  · rw [Nat.min_eq_right h, List.take_of_length_le (by rw [List.length_map]; exact Nat.le_refl _), List.take_of_length_le (by rw [List.length_map]; exact h)]
theorem not_inV (x : Str) (us : List Str) : decide (x ∉ us) = !inV (.str x) (us.map V.str) := by rw [inV_str]; simp
section
variable {P : Program} {w : World} {K : PySem.W.Frag} {mg : Str → Option Value} {base : Heap}
theorem ok_lists (T : Txt K mg) : Cal P w K mg base 4 "_law_lists" spLists := by
  have C__law_take := ok_take (P := P) (w := w) (base := base) T
  have C__law_names := ok_names (P := P) (w := w) (base := base) T
  have C__law_any_names := ok_any_names (P := P) (w := w) (base := base) T
  have C__law_rides := ok_rides (P := P) (w := w) (base := base) T
  have C__law_free := ok_free (P := P) (w := w) (base := base) T
  obtain ⟨fd, F⟩ := T.d__law_lists
  refine cal_of F (fn_ok0 F sc__law_lists (fun vs H Q E h => ?_) (fun cdv A outer s H vs Q E hr h => ?_)) T.m__law_lists fun _ _ _ _ _ _ us hl => match us, hl with | [_], _ => rfl
  · obtain ⟨p, pl, rfl, _⟩ := h
    rfl
  · obtain ⟨p, pl, rfl, hp, hpl, q⟩ := h
    refine ⟨_, pss_cons (ps_set (i := 1) sc__law_lists.nd rfl (Or.inl rfl) (pe_cal C__law_take hr (by decide) rfl (pa_cons (pv 0) (pa_cons (pe_int) (pa_nil)))))
      (pss_cons (ps_if (pt_cmpR op_eq (pv 1) (pe_int) (nomark _))
      (pss_one (ps_ret (pe_lst (pa_cons (pe_lst (pa_nil)) (pa_cons (pe_lst (pa_nil)) (pa_nil))))))
      (pss_nil))
      (pss_cons (ps_set (i := 2) sc__law_lists.nd rfl (Or.inl rfl) (pe_callB (call_min2 rfl) (by rfl) T.n_min T.b_min (pa_cons (pe_cal C__law_take hr (by decide) rfl (pa_cons (pv 0) (pa_cons (pe_int) (pa_nil)))) (pa_cons (pe_cal C__law_take hr (by decide) rfl (pa_cons (pv 0) (pa_cons (pe_int) (pa_nil)))) (pa_nil)))))
      (pss_cons (ps_if (pt_cmpR op_eq (pe_cal C__law_take hr (by decide) rfl (pa_cons (pv 0) (pa_cons (pe_int) (pa_nil)))) (pe_int) (nomark _))
      (pss_cons (ps_set (i := 3) sc__law_lists.nd rfl (Or.inr rfl) (pe_cal C__law_names hr (by decide) rfl (pa_cons (pv 0) (pa_cons (pv 1) (pa_nil)))))
      (pss_one (ps_set (i := 4) sc__law_lists.nd rfl (Or.inl rfl) (pe_cal C__law_names hr (by decide) rfl (pa_cons (pv 0) (pa_cons (pv 2) (pa_nil)))))))
      (pss_cons (ps_set (i := 3) sc__law_lists.nd rfl (Or.inr rfl) (pe_cal C__law_any_names hr (by decide) rfl (pa_cons (pv 0) (pa_cons (pv 1) (pa_nil)))))
      (pss_one (ps_set (i := 4) sc__law_lists.nd rfl (Or.inl rfl) (pe_cal C__law_any_names hr (by decide) rfl (pa_cons (pv 0) (pa_cons (pv 2) (pa_nil))))))))
      (pss_cons (ps_if (pt_cmpR op_eq (pe_cal C__law_take hr (by decide) rfl (pa_cons (pv 0) (pa_cons (pe_int) (pa_nil)))) (pe_int) (nomark _))
      (pss_cons (ps_setLc (i := 5) (own := [("title", 8)]) rfl sc__law_lists.nd rfl rfl (sw_true rfl rfl rfl (by decide +kernel)) (pi_listK (K := K) (pv 4)) (blkOk_by (N := N__law_lists) (sc := defScope s__law_lists) (by decide +kernel)) (fun _ _ _ _ _ => pg_name (i := 8) sc__law_lists.nd rfl (Or.inl rfl)) (fun _ _ _ _ _ => pts_one (pt_cmpR (op_notIn_seqK (K := K)) (pv 8) (pv 3) (by with_unfolding_all rfl))) (fun _ _ _ _ _ => pv 8))
      (pss_one (ps_set (i := 4) sc__law_lists.nd rfl (Or.inl rfl) (pe_slice (sl_listK (K := K)) (pe_op op_cat (pv 3) (pv 5)) po_none (po_some (pv 2))))))
      (pss_nil))
      (pss_cons (ps_set (i := 6) sc__law_lists.nd rfl (Or.inl rfl) (pe_cal C__law_take hr (by decide) rfl (pa_cons (pv 0) (pa_cons (pe_int) (pa_nil)))))
      (pss_cons (ps_set (i := 7) sc__law_lists.nd rfl (Or.inl rfl) (pe_cal C__law_rides hr (by decide) rfl (pa_cons (pv 0) (pa_cons (pv 4) (pa_cons (pv 3) (pa_cons (pv 6) (pa_cons (pe_int) (pa_nil))))))))
      (pss_one (ps_ret (pe_lst (pa_cons (pe_cal C__law_free hr (by decide) rfl (pa_cons (pv 0) (pa_cons (pv 3) (pa_cons (pe_int) (pa_nil))))) (pa_cons (pv 7) (pa_nil)))))))))))), ?_⟩
    have b0 : Bp p H H := ⟨⟨pl, hp, hpl⟩, Fr.refl _ _⟩
    refine ⟨_, rfl, p, 13, pl, rfl, hp, hpl, by decide, by decide, fun n pl1 hn0 hn1 hpl1 => ?_⟩
    have b1 := b0.draw hpl1
    refine ⟨_, rfl, rfl, _, rfl, ?_⟩
    refine ite2 (fun c => ?_) (fun c => ?_)
    · refine ⟨by rw [sizeLine_eq]; decide, fun a na => ⟨by rw [sizeLine_eq]; decide, fun b nb => ⟨by rw [sizeLine_eq]; exact (by decide : 2 ≤ 16777216), fun l nl => ?_⟩⟩⟩
      have e1 := Evl.Ex.new (o := .lst []) nb
      have e2 := Evl.Ex.new (o := .lst [.ref a, .ref b]) nl
      refine q l a b [] [] [] [] _ ⟨by simp, by simp, by simp, (fun x h => by cases h), by simp, (fun x h => by cases h), (fun x h => by cases h), (fun x h => by cases h)⟩ ⟨upd_same, e2 _ _ (e1 _ _ upd_same), .nil, e2 _ _ upd_same, .nil⟩ ((b1.ex ((Evl.Ex.new na).trans (e1.trans e2))).fr)
    · have hn1' : 1 ≤ n := by
        have : ¬ n = 0 := fun h => c (decide_eq_true (by rw [h]))
        omega
      -- count
      refine ⟨_, rfl, p, 25, pl1, rfl, upd_same, hpl1, by decide, by decide, fun c1 pl2 h10 h11 hpl2 => ?_⟩
      refine ⟨_, rfl, p, 25, pl2, rfl, upd_same, hpl2, by decide, by decide, fun c2 pl3 h20 h21 hpl3 => ?_⟩
      have b2 := (b1.draw hpl2).draw hpl3
      refine ⟨_, _, rfl, ?_⟩
      have hct : ∃ ct : Nat, (if c2 < c1 then c2 else c1) = (ct : Int) ∧ ct ≤ 24 := ⟨(if c2 < c1 then c2 else c1).toNat, by split <;> omega, by split <;> omega⟩
      obtain ⟨ct, hct, hct1⟩ := hct
      rw [hct]
      generalize upd (upd (upd H p (.lst pl1)) p (.lst pl2)) p (.lst pl3) = H1 at b2
      dsimp only [gName]
      refine cutI (fun σ H' => ∃ (nl tl : Addr) (ns ts : List Str), Bp p H H' ∧ H' nl = some (.lst (ns.map V.str)) ∧ H' tl = some (.lst (ts.map V.str)) ∧ nl ≠ p ∧ tl ≠ p ∧ (ns.length : Int) = n ∧ (∀ x ∈ ns, isNm x = true) ∧ ns.Nodup ∧ (ts.length : Int) = ct ∧ (∀ x ∈ ts, isNm x = true) ∧ ts.Nodup ∧
        σ = [some (.ref p), some (.int n), some (.int ct), some (.ref nl), some (.ref tl), none, none, none, none]) (fun σ H2 h2 => ?_) (fun nx h => ?_)
      · obtain ⟨nl, tl, ns, ts, b3, hnl, htl, nlp, tlp, hnsl, hnsm, hnsn, htsl, htsm, htsn, rfl⟩ := h2
        refine cutI (fun σ H' => ∃ (tl : Addr) (ts : List Str) (o : Option V), Bp p H H' ∧ H' nl = some (.lst (ns.map V.str)) ∧ H' tl = some (.lst (ts.map V.str)) ∧ tl ≠ p ∧ ts.length ≤ 24 ∧ (∀ x ∈ ts, isNm x = true) ∧ ts.Nodup ∧
          σ = [some (.ref p), some (.int n), some (.int ct), some (.ref nl), some (.ref tl), o, none, none, none]) (fun σ H3 h3 => ?_) (fun nx h => ?_)
        · obtain ⟨tl, ts, o, b4, hnl, htl, tlp, htsl, htsm, htsn, rfl⟩ := h3
          obtain ⟨pl4, hp4, hpl4⟩ := b4.pool
          refine ⟨_, rfl, p, 2, pl4, rfl, hp4, hpl4, by decide, by decide, fun st pl5 hs0 hs1 hpl5 => ?_⟩
          have b5 := b4.draw hpl5
          have hnl : upd H3 p (.lst pl5) nl = some (.lst (ns.map V.str)) := by rw [upd_ne nlp]; exact hnl
          have htl : upd H3 p (.lst pl5) tl = some (.lst (ts.map V.str)) := by rw [upd_ne tlp]; exact htl
          refine ⟨_, rfl, _, rfl, _, rfl, _, rfl, p, tl, nl, st, 24, pl5, ts, ns, rfl, upd_same, hpl5, SqL.of htl, SqL.of hnl, hnsn, hnsm, by omega, by omega, htsl, by decide, by decide, fun rs ra rl pl6 H4 e1 e2 e3 e4 e5 e6 e7 e8 e9 => ?_⟩
          have hnl4 : H4 nl = some (.lst (ns.map V.str)) := e9 _ _ nlp hnl
          refine ⟨_, rfl, _, rfl, p, nl, 1, pl6, ns, rfl, e7, e8, SqL.of hnl4, by omega, fun ss sa sl pl7 H5 g1 g2 g3 g4 g5 g6 g7 g8 => ?_⟩
          refine ⟨_, rfl, by rw [sizeLine_eq]; exact (by decide : 2 ≤ 16777216), fun l nl => ?_⟩
          have x := Evl.Ex.new (o := .lst [.ref sl, .ref rl]) nl
          have hrp : rl ≠ p := (ne_of_none upd_same e4).symm
          refine q l sl rl sa ra ss rs _ ⟨?_, ?_, by rw [g1]; exact hnsn, by rw [g1]; exact hnsm, by rw [e1]; exact htsn, by rw [e1]; exact htsm, g2, by rw [g1]; exact e2⟩ ⟨upd_same, x _ _ g4, g5.keep (NL.ex x), x _ _ (g8 _ _ hrp e5), (e6.keep (NL.fr g8 e7)).keep (NL.ex x)⟩ (((b5.fr.trans e9).trans g8).trans (Fr.ex x))
          · have := congrArg List.length g1
            rw [List.length_map] at this
            omega
          · have := congrArg List.length e1
            rw [List.length_map] at this
            omega
        · obtain ⟨pl4, hp4, hpl4⟩ := b3.pool
          refine ⟨_, rfl, p, 4, pl4, rfl, hp4, hpl4, by decide, by decide, fun d pl5 hd0 hd1 hpl5 => ?_⟩
          have b4 := b3.draw hpl5
          have hnl : upd H2 p (.lst pl5) nl = some (.lst (ns.map V.str)) := by rw [upd_ne nlp]; exact hnl
          have htl : upd H2 p (.lst pl5) tl = some (.lst (ts.map V.str)) := by rw [upd_ne tlp]; exact htl
          refine ⟨rfl, _, rfl, ?_⟩
          refine ite2 (fun c => ?_) (fun c => h _ _ ⟨tl, ts, none, b4, hnl, htl, tlp, by omega, htsm, htsn, rfl⟩)
          refine q_asgP (ev_lcL (p := fun x => decide (x ∉ ns)) (g := V.str) ts V.str (Evl.ev_var rfl) (SqL.of htl) (by omega) (fun x => rfl) (fun x hx H2 e2 H3 e3 Q2 k => ⟨_, rfl, _, rfl, nl, _, rfl, Or.inl (SqL.of (e3 _ _ (e2 _ _ hnl))), rfl, flat_strs ns, _, rfl, (not_inV x ns) ▸ k H3 (Evl.Ex.refl _)⟩) fun x hx hp H2 e2 => Evl.ev_var rfl) fun v H3 e3 ⟨D, hv, hD, hH3⟩ => ?_
          subst hv
          have hos : ∃ os : List Str, ts.filter (fun x => decide (x ∉ ns)) = os ∧ os.length ≤ ts.length ∧ os.Nodup ∧ ∀ x ∈ os, x ∈ ts ∧ x ∉ ns := ⟨_, rfl, List.length_filter_le _ _, htsn.filter _, fun x hx => ⟨(List.mem_filter.mp hx).1, of_decide_eq_true (List.mem_filter.mp hx).2⟩⟩
          obtain ⟨os, hos0, hos1, hos2, hos3⟩ := hos
          rw [hos0] at hH3
          refine ⟨_, rfl, _, rfl, nl, D, _, _, rfl, rfl, e3 _ _ hnl, hH3, by rw [List.length_map, List.length_map, sizeLine_eq]; omega, fun cc ncc => ⟨_, rfl, _, rfl, cc, _, rfl, SqL.of upd_same, fun l nl' => ?_⟩⟩
          have x1 := Evl.Ex.new (o := .lst (ns.map V.str ++ os.map V.str)) ncc
          have x2 := Evl.Ex.new (o := .lst (cutV (ns.map V.str ++ os.map V.str) none (some (ct : Int)))) nl'
          have b5 := (b4.ex e3).ex (x1.trans x2)
          obtain ⟨pl9, hp9, hpl9⟩ := ((b4.ex e3).ex x1).pool
          have hnd : (ns ++ os).Nodup := List.nodup_append.mpr ⟨hnsn, hos2, fun a ha b hb e => (hos3 b hb).2 (e ▸ ha)⟩
          refine h _ _ ⟨l, (ns ++ os).take ct, _, b5, x2 _ _ (x1 _ _ (e3 _ _ hnl)), ?_, (ne_of_none hp9 nl').symm, by rw [List.length_take]; omega, fun x hx => ?_, hnd.sublist (List.take_sublist _ _), rfl⟩
          · rw [upd_same, ← List.map_append, cut_take2]
          · rcases List.mem_append.mp (List.mem_of_mem_take hx) with z | z
            · exact hnsm x z
            · exact htsm x (hos3 x z).1
      · obtain ⟨pl4, hp4, hpl4⟩ := b2.pool
        refine ⟨_, rfl, p, 2, pl4, rfl, hp4, hpl4, by decide, by decide, fun d pl5 hd0 hd1 hpl5 => ?_⟩
        have b3 := b2.draw hpl5
        refine ⟨rfl, _, rfl, ?_⟩
        have go : ∀ (ns : List Str) (nl : Addr) (pl6 : List V) (H2 : Hp), (ns.length : Int) = n → (∀ s ∈ ns, isNm s = true) → ns.Nodup → (upd H1 p (.lst pl5)) nl = none → H2 nl = some (.lst (ns.map V.str)) → H2 p = some (.lst pl6) → PoolL pl6 → Fr p (upd H1 p (.lst pl5)) H2 →
            ∀ (ts : List Str) (tl : Addr) (pl7 : List V) (H3 : Hp), (ts.length : Int) = ct → (∀ s ∈ ts, isNm s = true) → ts.Nodup → H2 tl = none → H3 tl = some (.lst (ts.map V.str)) → H3 p = some (.lst pl7) → PoolL pl7 → Fr p H2 H3 →
            nx [some (.ref p), some (.int n), some (.int ct), some (.ref nl), some (.ref tl), none, none, none, none] H3 := fun ns nl pl6 H2 e1 e2 e3 e4 e5 e6 e7 e8 ts tl pl7 H3 g1 g2 g3 g4 g5 g6 g7 g8 =>
          h _ _ ⟨nl, tl, ns, ts, ⟨⟨pl7, g6, g7⟩, (b3.fr.trans e8).trans g8⟩, g8 _ _ (ne_of_none upd_same e4).symm e5, g5, (ne_of_none upd_same e4).symm, (ne_of_none e6 g4).symm, e1, e2, e3, g1, g2, g3, rfl⟩
        refine ite2 (fun c => ?_) (fun c => ?_)
        · refine ⟨_, rfl, _, rfl, p, n, pl5, rfl, upd_same, hpl5, by omega, by omega, fun ns nl pl6 H2 e1 e2 e3 e4 e5 e6 e7 e8 => ?_⟩
          exact ⟨_, rfl, _, rfl, p, ct, pl6, rfl, e6, e7, by omega, by omega, fun ts tl pl7 H3 g1 g2 g3 g4 g5 g6 g7 g8 => go ns nl pl6 H2 e1 e2 e3 e4 e5 e6 e7 e8 ts tl pl7 H3 g1 g2 g3 g4 g5 g6 g7 g8⟩
        · refine ⟨_, rfl, _, rfl, p, n, pl5, rfl, upd_same, hpl5, by omega, by omega, fun ns nl pl6 H2 e1 e2 e3 e4 e5 e6 e7 e8 => ?_⟩
          exact ⟨_, rfl, _, rfl, p, ct, pl6, rfl, e6, e7, by omega, by omega, fun ts tl pl7 H3 g1 g2 g3 g4 g5 g6 g7 g8 => go ns nl pl6 H2 e1 e2 e3 e4 e5 e6 e7 e8 ts tl pl7 H3 g1 g2 g3 g4 g5 g6 g7 g8⟩
end
end Rk

namespace Rk
open PySem PySem.Spec PyProof.Rows L2 He Rb C8 SX
/-! ### two values that are the same all the way down -/
theorem ix_anyK {X : Cx} {K : PySem.W.Frag} (h : X.K = K := by rfl) : IxR X (rIx K) := h ▸ ix_seq
inductive Atom : V → V → Prop
  | int (i : Int) : Atom (.int i) (.int i)
  | str (s : Str) : Atom (.str s) (.str s)
  | bl (b : Bool) : Atom (.bl b) (.bl b)
def Same (K : PySem.W.Frag) : Nat → Hp → V → V → Prop
  | 0, _, _, _ => False
  | n + 1, H, x, y => Atom x y ∨ (∃ a b xs ys, x = .ref a ∧ y = .ref b ∧ SqT K H a xs ∧ SqT K H b ys ∧ xs.length ≤ 1000 ∧ Paired (Same K n H) xs ys) ∨ (∃ a b xs ys, x = .ref a ∧ y = .ref b ∧ SqL K H a xs ∧ SqL K H b ys ∧ xs.length ≤ 1000 ∧ Paired (Same K n H) xs ys)
theorem Same.ex {K : PySem.W.Frag} {H H' : Hp} (e : Ex H H') : ∀ {n : Nat} {x y : V}, Same K n H x y → Same K n H' x y
  | 0, _, _, h => h
  | n + 1, _, _, .inl h => .inl h
  | n + 1, _, _, .inr (.inl ⟨a, b, xs, ys, h1, h2, h3, h4, h5, h6⟩) => .inr (.inl ⟨a, b, xs, ys, h1, h2, Evl.ex_t e h3, Evl.ex_t e h4, h5, paired_imp (fun _ _ z => Same.ex e z) h6⟩)
  | n + 1, _, _, .inr (.inr ⟨a, b, xs, ys, h1, h2, h3, h4, h5, h6⟩) => .inr (.inr ⟨a, b, xs, ys, h1, h2, Evl.ex_l e h3, Evl.ex_l e h4, h5, paired_imp (fun _ _ z => Same.ex e z) h6⟩)
theorem paired_get {α β : Type} {F : α → β → Prop} : ∀ {l1 : List α} {l2 : List β} {i : Nat}, Paired F l1 l2 → i < l1.length → ∃ a b, l1[i]? = some a ∧ l2[i]? = some b ∧ F a b
  | a :: _, b :: _, 0, .cons h _, _ => ⟨a, b, rfl, rfl, h⟩
  | _ :: _, _ :: _, i + 1, .cons _ h, hi => paired_get (i := i) h (by rw [List.length_cons] at hi; omega)
def spSame (K : PySem.W.Frag) (n : Nat) : Sp := fun vs H Q _ => ∃ x y, vs = [x, y] ∧ Same K n H x y ∧ ∀ H', Ex H H' → Q (.bl true) H'
theorem tyT {K : PySem.W.Frag} {H : Hp} {a : Addr} {xs : List V} (h : SqT K H a xs) : TyX K H (.ref a) (.type "tuple") := by
  rcases h with (h | ⟨o, h⟩) | ⟨o, its, n, h1, h2, _⟩
  · exact .base (.tup h)
  · exact .fTuple h
  · exact .kTuple h1 h2
theorem tyL {K : PySem.W.Frag} {H : Hp} {a : Addr} {xs : List V} (h : SqL K H a xs) : TyX K H (.ref a) (.type "list") := by
  rcases h with (h | ⟨o, h⟩) | ⟨o, its, n, h1, h2, _⟩
  · exact .base (.lst h)
  · exact .base (.frz h)
  · exact .kList h1 h2
section
variable {K : PySem.W.Frag}
theorem k_tt : PySem.W.kitOne K (.type "tuple") (.type "tuple") = some true := by rfl
theorem k_ll : PySem.W.kitOne K (.type "list") (.type "list") = some true := by rfl
theorem k_ii : PySem.W.kitOne K (.type "int") (.type "int") = some true := by rfl
theorem k_ss : PySem.W.kitOne K (.type "str") (.type "str") = some true := by rfl
theorem k_lt : PySem.W.kitOne K (.type "list") (.type "tuple") = some false := by rfl
theorem k_it : PySem.W.kitOne K (.type "int") (.type "tuple") = some false := by rfl
theorem k_st : PySem.W.kitOne K (.type "str") (.type "tuple") = some false := by rfl
theorem k_bt : PySem.W.kitOne K (.type "bool") (.type "tuple") = some false := by rfl
theorem k_il : PySem.W.kitOne K (.type "int") (.type "list") = some false := by rfl
theorem k_sl : PySem.W.kitOne K (.type "str") (.type "list") = some false := by rfl
theorem k_bl : PySem.W.kitOne K (.type "bool") (.type "list") = some false := by rfl
theorem k_id : PySem.W.kitOne K (.type "int") (.type "dict") = some false := by rfl
theorem k_sd : PySem.W.kitOne K (.type "str") (.type "dict") = some false := by rfl
theorem k_bd : PySem.W.kitOne K (.type "bool") (.type "dict") = some false := by rfl
theorem k_si : PySem.W.kitOne K (.type "str") (.type "int") = some false := by rfl
theorem k_ib : PySem.W.kitOne K (.type "int") (.type "bool") = some false := by rfl
end
abbrev N__law_same : List Str := ["actual", "expected", "k", "key"]
theorem sc__law_same : FnScope N__law_same ["actual", "expected"] (defScope s__law_same) := ⟨rfl, rfl, rfl, by decide +kernel, rfl, by decide +kernel, by decide +kernel⟩
section
variable {P : Program} {w : World} {K : PySem.W.Frag} {mg : Str → Option Value} {base : Heap}
theorem ok_same (T : Txt K mg) : ∀ n : Nat, Cal P w K mg base (n + 1) "_law_same" (spSame K n)
  | 0 => by
    obtain ⟨fd, F⟩ := T.d__law_same
    refine cal_of F (fn_ok0 F sc__law_same (fun vs H Q E h => ?_) (fun cdv A outer s H vs Q E hr h => ?_)) T.m__law_same fun _ _ _ _ _ _ us hl => match us, hl with | [_, _], _ => rfl
    · obtain ⟨x, y, rfl, _⟩ := h
      rfl
    · obtain ⟨x, y, rfl, h, _⟩ := h
      cases h
  | n + 1 => by
    have C__law_same := ok_same T n
    obtain ⟨fd, F⟩ := T.d__law_same
    refine cal_of F (fn_ok0 F sc__law_same (fun vs H Q E h => ?_) (fun cdv A outer s H vs Q E hr h => ?_)) T.m__law_same fun _ _ _ _ _ _ us hl => match us, hl with | [_, _], _ => rfl
    · obtain ⟨x, y, rfl, _⟩ := h
      rfl
    · obtain ⟨x, y, rfl, h, q⟩ := h
      refine ⟨_, pss_cons (ps_if (pt_val (pe_callB (call_isiK2 (K := K)) (by rfl) T.n_isinstance T.b_isinstance (pa_cons (pv 1) (pa_cons (pe_bltn (v := .ty "tuple") rfl T.n_tuple T.b_tuple rfl) (pa_nil)))))
      (pss_cons (ps_if (PW.pt (pw_or (pt_not (pt_val (pe_callB (call_isiK2 (K := K)) (by rfl) T.n_isinstance T.b_isinstance (pa_cons (pv 0) (pa_cons (pe_bltn (v := .ty "tuple") rfl T.n_tuple T.b_tuple rfl) (pa_nil)))))) (pw_or1 (pt_cmpR op_ne (pe_callB (call_lenK (K := K)) (by rfl) T.n_len T.b_len (pa_cons (pv 0) (pa_nil))) (pe_callB (call_lenK (K := K)) (by rfl) T.n_len T.b_len (pa_cons (pv 1) (pa_nil))) (nomark _)))))
      (pss_one (ps_ret (pe_bl)))
      (pss_nil))
      (pss_one (ps_ret (pe_callB (cr_allK (K := K) rfl) (by rfl) T.n_all T.b_all (pa_cons (pe_lc (own := [("k", 2)]) rfl sc__law_same.nd (pi_range1 rfl T.n_range (pa_cons (pe_callB (call_lenK (K := K)) (by rfl) T.n_len T.b_len (pa_cons (pv 1) (pa_nil))) (pa_nil))) (blkOk_by (N := N__law_same) (sc := defScope s__law_same) (by decide +kernel)) (fun _ _ _ _ _ => pg_name (i := 2) sc__law_same.nd rfl (Or.inl rfl)) (fun _ _ _ _ _ => pts_nil) (fun _ _ _ _ _ => pe_cal C__law_same hr (Nat.le_refl _) rfl (pa_cons (pe_ix (ix_anyK (K := K)) (pv 0) (pv 2) (fun _ _ => rfl)) (pa_cons (pe_ix (ix_anyK (K := K)) (pv 1) (pv 2) (fun _ _ => rfl)) (pa_nil))))) (pa_nil))))))
      (pss_nil))
      (pss_cons (ps_if (pt_val (pe_callB (call_isiK2 (K := K)) (by rfl) T.n_isinstance T.b_isinstance (pa_cons (pv 1) (pa_cons (pe_bltn (v := .ty "list") rfl T.n_list T.b_list rfl) (pa_nil)))))
      (pss_cons (ps_if (PW.pt (pw_or (pt_not (pt_val (pe_callB (call_isiK2 (K := K)) (by rfl) T.n_isinstance T.b_isinstance (pa_cons (pv 0) (pa_cons (pe_bltn (v := .ty "list") rfl T.n_list T.b_list rfl) (pa_nil)))))) (pw_or1 (pt_cmpR op_ne (pe_callB (call_lenK (K := K)) (by rfl) T.n_len T.b_len (pa_cons (pv 0) (pa_nil))) (pe_callB (call_lenK (K := K)) (by rfl) T.n_len T.b_len (pa_cons (pv 1) (pa_nil))) (nomark _)))))
      (pss_one (ps_ret (pe_bl)))
      (pss_nil))
      (pss_one (ps_ret (pe_callB (cr_allK (K := K) rfl) (by rfl) T.n_all T.b_all (pa_cons (pe_lc (own := [("k", 2)]) rfl sc__law_same.nd (pi_range1 rfl T.n_range (pa_cons (pe_callB (call_lenK (K := K)) (by rfl) T.n_len T.b_len (pa_cons (pv 1) (pa_nil))) (pa_nil))) (blkOk_by (N := N__law_same) (sc := defScope s__law_same) (by decide +kernel)) (fun _ _ _ _ _ => pg_name (i := 2) sc__law_same.nd rfl (Or.inl rfl)) (fun _ _ _ _ _ => pts_nil) (fun _ _ _ _ _ => pe_cal C__law_same hr (Nat.le_refl _) rfl (pa_cons (pe_ix (ix_anyK (K := K)) (pv 0) (pv 2) (fun _ _ => rfl)) (pa_cons (pe_ix (ix_anyK (K := K)) (pv 1) (pv 2) (fun _ _ => rfl)) (pa_nil))))) (pa_nil))))))
      (pss_nil))
      (pss_cons (ps_if (pt_val (pe_callB (call_isiK2 (K := K)) (by rfl) T.n_isinstance T.b_isinstance (pa_cons (pv 1) (pa_cons (pe_bltn (v := .ty "dict") rfl T.n_dict T.b_dict rfl) (pa_nil)))))
      (pss_cons (ps_if (PW.pt (pw_or (pt_not (pt_val (pe_callB (call_isiK2 (K := K)) (by rfl) T.n_isinstance T.b_isinstance (pa_cons (pv 0) (pa_cons (pe_bltn (v := .ty "dict") rfl T.n_dict T.b_dict rfl) (pa_nil)))))) (pw_or1 (pt_not (pt_val (pe_cal C__law_same hr (Nat.le_refl _) rfl (pa_cons (pe_callTy (call_listK (K := K)) (by rfl) T.n_list T.b_list (pa_cons (pv 0) (pa_nil))) (pa_cons (pe_callTy (call_listK (K := K)) (by rfl) T.n_list T.b_list (pa_cons (pv 1) (pa_nil))) (pa_nil)))))))))
      (pss_one (ps_ret (pe_bl)))
      (pss_nil))
      (pss_one (ps_ret (pe_callB (cr_allK (K := K) rfl) (by rfl) T.n_all T.b_all (pa_cons (pe_lc (own := [("key", 3)]) rfl sc__law_same.nd (pi_listK (K := K) (pe_callTy (call_listK (K := K)) (by rfl) T.n_list T.b_list (pa_cons (pv 1) (pa_nil)))) (blkOk_by (N := N__law_same) (sc := defScope s__law_same) (by decide +kernel)) (fun _ _ _ _ _ => pg_name (i := 3) sc__law_same.nd rfl (Or.inl rfl)) (fun _ _ _ _ _ => pts_nil) (fun _ _ _ _ _ => pe_cal C__law_same hr (Nat.le_refl _) rfl (pa_cons (pe_ix (ix_anyK (K := K)) (pv 0) (pv 3) (fun _ _ => rfl)) (pa_cons (pe_ix (ix_anyK (K := K)) (pv 1) (pv 3) (fun _ _ => rfl)) (pa_nil))))) (pa_nil))))))
      (pss_nil))
      (pss_cons (ps_if (pt_cmpR op_isN (pv 1) (pe_non) (nomark _))
      (pss_one (ps_ret (pe_cmpR op_isN (pv 0) (pe_non) (nomark _))))
      (pss_nil))
      (pss_cons (ps_if (pt_cmpR op_isB (pv 1) (pe_bl) (nomark _))
      (pss_one (ps_ret (pe_cmpR op_isB (pv 0) (pe_bl) (nomark _))))
      (pss_nil))
      (pss_cons (ps_if (pt_cmpR op_isB (pv 1) (pe_bl) (nomark _))
      (pss_one (ps_ret (pe_cmpR op_isB (pv 0) (pe_bl) (nomark _))))
      (pss_nil))
      (pss_cons (ps_if (pt_val (pe_callB (call_isiK2 (K := K)) (by rfl) T.n_isinstance T.b_isinstance (pa_cons (pv 1) (pa_cons (pe_bltn (v := .ty "int") rfl T.n_int T.b_int rfl) (pa_nil)))))
      (pss_one (ps_ret (pe_and (pe_callB (call_isiK2 (K := K)) (by rfl) T.n_isinstance T.b_isinstance (pa_cons (pv 0) (pa_cons (pe_bltn (v := .ty "int") rfl T.n_int T.b_int rfl) (pa_nil)))) (pe_and (pe_not (pe_callB (call_isiK2 (K := K)) (by rfl) T.n_isinstance T.b_isinstance (pa_cons (pv 0) (pa_cons (pe_bltn (v := .ty "bool") rfl T.n_bool T.b_bool rfl) (pa_nil))))) (pe_one (pe_cmpR op_eq (pv 0) (pv 1) (nomark _)))))))
      (pss_nil))
      (pss_one (ps_ret (pe_and (pe_callB (call_isiK2 (K := K)) (by rfl) T.n_isinstance T.b_isinstance (pa_cons (pv 0) (pa_cons (pe_bltn (v := .ty "str") rfl T.n_str T.b_str rfl) (pa_nil)))) (pe_one (pe_cmpR op_eq (pv 0) (pv 1) (nomark _)))))))))))), ?_⟩
      rcases h with h | ⟨a, b, xs, ys, rfl, rfl, ha, hb, hl, hp⟩ | ⟨a, b, xs, ys, rfl, rfl, ha, hb, hl, hp⟩
      · cases h with
        | int i =>
          refine ⟨_, rfl, _, _, _, _, _, rfl, .ty _, .base (.int i), k_it, _, rfl, iteF ?_⟩
          refine ⟨_, rfl, _, _, _, _, _, rfl, .ty _, .base (.int i), k_il, _, rfl, iteF ?_⟩
          refine ⟨_, rfl, _, _, _, _, _, rfl, .ty _, .base (.int i), k_id, _, rfl, iteF ?_⟩
          refine ⟨_, rfl, rfl, _, rfl, iteF ?_⟩
          refine ⟨_, rfl, true, rfl, .inr (.inr (.inl ⟨i, rfl⟩)), _, rfl, iteF ?_⟩
          refine ⟨_, rfl, false, rfl, .inr (.inr (.inl ⟨i, rfl⟩)), _, rfl, iteF ?_⟩
          refine ⟨_, rfl, _, _, _, _, _, rfl, .ty _, .base (.int i), k_ii, _, rfl, iteT ?_⟩
          refine ⟨_, rfl, _, _, _, _, _, rfl, .ty _, .base (.int i), k_ii, _, rfl, iteT ?_⟩
          refine ⟨_, rfl, _, _, _, _, _, rfl, .ty _, .base (.int i), k_ib, _, rfl, _, rfl, iteT ?_⟩
          refine ⟨_, rfl, _, rfl, rfl, ?_⟩
          rw [decide_eq_true rfl]
          exact q _ (Evl.Ex.refl _)
        | str i =>
          refine ⟨_, rfl, _, _, _, _, _, rfl, .ty _, .base (.str i), k_st, _, rfl, iteF ?_⟩
          refine ⟨_, rfl, _, _, _, _, _, rfl, .ty _, .base (.str i), k_sl, _, rfl, iteF ?_⟩
          refine ⟨_, rfl, _, _, _, _, _, rfl, .ty _, .base (.str i), k_sd, _, rfl, iteF ?_⟩
          refine ⟨_, rfl, rfl, _, rfl, iteF ?_⟩
          refine ⟨_, rfl, true, rfl, .inr (.inr (.inr ⟨i, rfl⟩)), _, rfl, iteF ?_⟩
          refine ⟨_, rfl, false, rfl, .inr (.inr (.inr ⟨i, rfl⟩)), _, rfl, iteF ?_⟩
          refine ⟨_, rfl, _, _, _, _, _, rfl, .ty _, .base (.str i), k_si, _, rfl, iteF ?_⟩
          refine ⟨_, rfl, _, _, _, _, _, rfl, .ty _, .base (.str i), k_ss, _, rfl, iteT ?_⟩
          refine ⟨_, rfl, _, rfl, rfl, ?_⟩
          rw [decide_eq_true rfl]
          exact q _ (Evl.Ex.refl _)
        | bl b =>
          refine ⟨_, rfl, _, _, _, _, _, rfl, .ty _, .base (.bl b), k_bt, _, rfl, iteF ?_⟩
          refine ⟨_, rfl, _, _, _, _, _, rfl, .ty _, .base (.bl b), k_bl, _, rfl, iteF ?_⟩
          refine ⟨_, rfl, _, _, _, _, _, rfl, .ty _, .base (.bl b), k_bd, _, rfl, iteF ?_⟩
          refine ⟨_, rfl, rfl, _, rfl, iteF ?_⟩
          cases b with
          | true =>
            refine ⟨_, rfl, true, rfl, .inr (.inl ⟨_, rfl⟩), _, rfl, iteT ?_⟩
            refine ⟨_, rfl, true, rfl, .inr (.inl ⟨_, rfl⟩), ?_⟩
            rw [decide_eq_true rfl]
            exact q _ (Evl.Ex.refl _)
          | false =>
            refine ⟨_, rfl, true, rfl, .inr (.inl ⟨_, rfl⟩), _, rfl, iteF ?_⟩
            refine ⟨_, rfl, false, rfl, .inr (.inl ⟨_, rfl⟩), _, rfl, iteT ?_⟩
            refine ⟨_, rfl, false, rfl, .inr (.inl ⟨_, rfl⟩), ?_⟩
            rw [decide_eq_true rfl]
            exact q _ (Evl.Ex.refl _)
      · have hxy := paired_len hp
        refine ⟨_, rfl, _, _, _, _, _, rfl, .ty _, tyT hb, k_tt, _, rfl, iteT ?_⟩
        refine ⟨_, rfl, _, _, _, _, _, rfl, .ty _, tyT ha, k_tt, _, rfl, iteF ?_⟩
        refine ⟨_, rfl, _, xs.length, rfl, .inr ⟨_, ha, rfl⟩, _, rfl, _, ys.length, rfl, .inr ⟨_, hb, rfl⟩, rfl, _, rfl, ?_⟩
        refine ite2 (fun c => by rw [hxy] at c; simp at c) (fun _ => ?_)
        dsimp only [tNext]
        refine s_retP (EvP.of (ev_all ((List.range ys.length).map fun _ => true) (EvP.imp (ev_lcV (fun _ => true) (fun _ => .bl true) (src_r1 (n := (ys.length : Int)) (Evl.ea_cons (fun H1 e1 Q k => ⟨_, rfl, _, ys.length, rfl, .inr ⟨_, Evl.ex_t e1 hb, rfl⟩, k _ (Evl.Ex.refl _)⟩) Evl.ea_nil) (by omega) (by omega)) (by omega) (fun i x H1 e hi y => ⟨_, evg_name, by subst y; rfl, et_yes, fun _ H2 e2 Q2 k => ?_⟩)) fun v H1 e1 ⟨D, h1, h2, h3⟩ => ⟨D, h1, h2, by rw [h3, idx_all, List.map_map]; rfl⟩))) fun v H1 e1 hv => ?_
        · subst y
          have hi : i < ys.length := by omega
          obtain ⟨x, y, gx, gy, hs⟩ := paired_get (i := i) hp (by omega)
          exact ⟨_, rfl, _, rfl, .inr <| .inl ⟨a, xs, (i : Int), x, rfl, rfl, Evl.ex_t (e.trans e2) ha, atI_nat gx, _, rfl, _, rfl, .inr <| .inl ⟨b, ys, (i : Int), y, rfl, rfl, Evl.ex_t (e.trans e2) hb, atI_nat gy, x, y, rfl, Same.ex (e.trans e2) hs, fun H3 e3 => k _ e3⟩⟩⟩
        · subst hv
          have e : ((List.range ys.length).map fun _ => true).all id = true := by simp
          rw [e]
          exact q _ e1
      · have hxy := paired_len hp
        refine ⟨_, rfl, _, _, _, _, _, rfl, .ty _, tyL hb, k_lt, _, rfl, iteF ?_⟩
        refine ⟨_, rfl, _, _, _, _, _, rfl, .ty _, tyL hb, k_ll, _, rfl, iteT ?_⟩
        refine ⟨_, rfl, _, _, _, _, _, rfl, .ty _, tyL ha, k_ll, _, rfl, iteF ?_⟩
        refine ⟨_, rfl, _, xs.length, rfl, .inl ⟨_, ha, rfl⟩, _, rfl, _, ys.length, rfl, .inl ⟨_, hb, rfl⟩, rfl, _, rfl, ?_⟩
        refine ite2 (fun c => by rw [hxy] at c; simp at c) (fun _ => ?_)
        dsimp only [tNext]
        refine s_retP (EvP.of (ev_all ((List.range ys.length).map fun _ => true) (EvP.imp (ev_lcV (fun _ => true) (fun _ => .bl true) (src_r1 (n := (ys.length : Int)) (Evl.ea_cons (fun H1 e1 Q k => ⟨_, rfl, _, ys.length, rfl, .inl ⟨_, Evl.ex_l e1 hb, rfl⟩, k _ (Evl.Ex.refl _)⟩) Evl.ea_nil) (by omega) (by omega)) (by omega) (fun i x H1 e hi y => ⟨_, evg_name, by subst y; rfl, et_yes, fun _ H2 e2 Q2 k => ?_⟩)) fun v H1 e1 ⟨D, h1, h2, h3⟩ => ⟨D, h1, h2, by rw [h3, idx_all, List.map_map]; rfl⟩))) fun v H1 e1 hv => ?_
        · subst y
          have hi : i < ys.length := by omega
          obtain ⟨x, y, gx, gy, hs⟩ := paired_get (i := i) hp (by omega)
          exact ⟨_, rfl, _, rfl, .inl ⟨a, xs, (i : Int), x, rfl, rfl, Evl.ex_l (e.trans e2) ha, atI_nat gx, _, rfl, _, rfl, .inl ⟨b, ys, (i : Int), y, rfl, rfl, Evl.ex_l (e.trans e2) hb, atI_nat gy, x, y, rfl, Same.ex (e.trans e2) hs, fun H3 e3 => k _ e3⟩⟩⟩
        · subst hv
          have e : ((List.range ys.length).map fun _ => true).all id = true := by simp
          rw [e]
          exact q _ e1
end
end Rk

namespace Rk
open PySem PySem.Spec PyProof.Rows L2 He Rb C8 SX
/-! ### the checks of rows without a fault -/
def spStation (K : PySem.W.Frag) : Sp := fun vs H Q _ => ∃ (a d : Addr) (s : Stn) (kvs : List (Key × V)), vs = [.ref a, .ref d] ∧ SqT K H a (stV s) ∧ StnOk s ∧ isNm s.name = true ∧ H d = some (.dK kvs) ∧ valV kvs (Sum.inr s.name) = none ∧ ∀ H', Ex H H' → Q .non H'
def spRide (K : PySem.W.Frag) : Sp := fun vs H Q _ => ∃ (a d e : Addr) (r : Rd) (ps : List Str) (kvs svs : List (Key × V)), vs = [.ref a, .ref d, .ref e] ∧ SqT K H a (rdV r) ∧ RideOk ps r ∧ isNm r.name = true ∧ H d = some (.dK kvs) ∧ valV kvs (Sum.inr r.name) = none ∧
  H e = some (.dK svs) ∧ (∀ z ∈ ps, (valV svs (Sum.inr z)).isSome = true) ∧ ∀ H', Ex H H' → Q .non H'
abbrev N_check_station : List Str := ["station", "taken", "name", "docks", "bikes"]
theorem sc_check_station : FnScope N_check_station ["station", "taken"] (defScope s_check_station) := ⟨rfl, rfl, rfl, by decide +kernel, rfl, by decide +kernel, by decide +kernel⟩
abbrev N_check_ride : List Str := ["ride", "taken", "stations", "name", "start", "goal", "kept", "place"]
theorem sc_check_ride : FnScope N_check_ride ["ride", "taken", "stations"] (defScope s_check_ride) := ⟨rfl, rfl, rfl, by decide +kernel, rfl, by decide +kernel, by decide +kernel⟩
section
variable {P : Program} {w : World} {K : PySem.W.Frag} {mg : Str → Option Value} {base : Heap}
theorem ok_station (T : Txt K mg) : Cal P w K mg base 3 "check_station" (spStation K) := by
  have C_check_new_name := ok_new_name (P := P) (w := w) (base := base) T
  have C_check_number := ok_number (P := P) (w := w) (base := base) T
  obtain ⟨fd, F⟩ := T.d_check_station
  refine cal_of F (fn_ok0 F sc_check_station (fun vs H Q E h => ?_) (fun cdv A outer s H vs Q E hr h => ?_)) T.m_check_station fun _ _ _ _ _ _ us hl => match us, hl with | [_, _], _ => rfl
  · obtain ⟨a, d, s, kvs, rfl, _⟩ := h
    rfl
  · obtain ⟨a, d, s, kvs, rfl, ha, ok, hnm, hd, hv, q⟩ := h
    obtain ⟨u, hu⟩ := T.cv_Town_MOST_DOCKS
    refine ⟨_, pss_cons (ps_asg (pv 0) (pg_tupK (K := K) rfl (pgs_cons (pg_name (i := 2) sc_check_station.nd rfl (Or.inl rfl)) (pgs_cons (pg_name (i := 3) sc_check_station.nd rfl (Or.inl rfl)) (pgs_cons (pg_name (i := 4) sc_check_station.nd rfl (Or.inl rfl)) (pgs_nil))))))
      (pss_cons (ps_expr (pe_cal C_check_new_name hr (by decide) rfl (pa_cons (pv 2) (pa_cons (pv 1) (pa_nil)))))
      (pss_cons (ps_expr (pe_cal C_check_number hr (by decide) rfl (pa_cons (pv 3) (pa_cons (pe_int) (pa_cons (ClX.pe_cval (pe_glob (v := .ref (ga K "Town")) rfl T.m_Town rfl)) (pa_nil))))))
      (pss_one (ps_expr (pe_cal C_check_number hr (by decide) rfl (pa_cons (pv 4) (pa_cons (pe_int) (pa_cons (pv 3) (pa_nil))))))))), ?_⟩
    refine ⟨_, rfl, a, _, rfl, ha, rfl, _, _, rfl, _, _, rfl, _, _, rfl, rfl, ?_⟩
    refine ⟨_, rfl, _, rfl, s.name, d, kvs, rfl, hnm, hd, hv, fun H' e => ?_⟩
    refine ⟨_, rfl, _, _, _, _, rfl, T.cr_Town, hu, s.docks, 1, 999999, rfl, ok.d1, ok.d2, ?_⟩
    exact ⟨_, rfl, _, rfl, s.bikes, 0, s.docks, rfl, ok.b1, ok.b2, q H' e⟩
theorem ok_ride (T : Txt K mg) : Cal P w K mg base 3 "check_ride" (spRide K) := by
  have C_check_new_name := ok_new_name (P := P) (w := w) (base := base) T
  obtain ⟨fd, F⟩ := T.d_check_ride
  refine cal_of F (fn_ok0 F sc_check_ride (fun vs H Q E h => ?_) (fun cdv A outer s H vs Q E hr h => ?_)) T.m_check_ride fun _ _ _ _ _ _ us hl => match us, hl with | [_, _, _], _ => rfl
  · obtain ⟨a, d, e, r, ps, kvs, svs, rfl, _⟩ := h
    rfl
  · obtain ⟨a, d, e, r, ps, kvs, svs, rfl, ha, ok, hnm, hd, hv, he, hs, q⟩ := h
    have hu := hu_of hr
    refine ⟨_, pss_cons (ps_asg (pv 0) (pg_tupK (K := K) rfl (pgs_cons (pg_name (i := 3) sc_check_ride.nd rfl (Or.inl rfl)) (pgs_cons (pg_name (i := 4) sc_check_ride.nd rfl (Or.inl rfl)) (pgs_cons (pg_name (i := 5) sc_check_ride.nd rfl (Or.inl rfl)) (pgs_cons (pg_name (i := 6) sc_check_ride.nd rfl (Or.inl rfl)) (pgs_nil)))))))
      (pss_cons (ps_expr (pe_cal C_check_new_name hr (by decide) rfl (pa_cons (pv 3) (pa_cons (pv 1) (pa_nil)))))
      (pss_cons (ps_for PassesOwn.never rfl (pi_tupK (K := K) (pe_tup (pa_cons (pv 4) (pa_cons (pv 5) (pa_nil))))) (pg_name (i := 7) sc_check_ride.nd rfl (Or.inl rfl))
      (pss_one (ps_if (PW.pt (pw_and (pt_cmpR op_ne (pv 7) (pe_gc rfl T.g_STREET) (nomark _)) (pw_and1 (pt_cmp (pc_dnotin hu (pv 7) (pv 2))))))
      (pss_one (ps_never))
      (pss_nil))))
      (pss_cons (ps_if (pt_cmpR op_eq (pv 4) (pv 5) (nomark _))
      (pss_one (ps_never))
      (pss_nil))
      (pss_one (ps_if (PW.pt (pw_and (pt_not (pt_val (pv 6))) (pw_and1 (pt_cmpR (op_in_seqK (K := K)) (pe_gc rfl T.g_STREET) (pe_tup (pa_cons (pv 4) (pa_cons (pv 5) (pa_nil)))) (by with_unfolding_all rfl)))))
      (pss_one (ps_never))
      (pss_nil)))))), ?_⟩
    refine ⟨_, rfl, a, _, rfl, ha, rfl, _, _, rfl, _, _, rfl, _, _, rfl, _, _, rfl, rfl, ?_⟩
    refine ⟨_, rfl, _, rfl, r.name, d, kvs, rfl, hnm, hd, hv, fun H' ex => ?_⟩
    refine ⟨_, rfl, _, rfl, by rw [sizeLine_eq]; exact (by decide : 2 ≤ 16777216), fun t nt => ?_⟩
    have et := Evl.Ex.new (o := .tup [.str r.start, .str r.goal]) nt
    have ht : upd H' t (.tup [.str r.start, .str r.goal]) t = some (.tup [.str r.start, .str r.goal]) := upd_same
    generalize upd H' t (.tup [.str r.start, .str r.goal]) = H2 at et ht
    refine ⟨t, rfl, ⟨_, SqT.of ht⟩, for_tup (xs := [.str r.start, .str r.goal]) (fun i σ H3 => H3 = H2 ∧ ∃ v, σ = [some (.ref a), some (.ref d), some (.ref e), some (.str r.name), some (.str r.start), some (.str r.goal), some (.bl r.kept), v]) ⟨rfl, _, rfl⟩ (fun i σ H3 hi h => by rw [h.1]; exact SqT.of ht) ?_ ?_⟩
    · rintro i x σ H3 hx ⟨rfl, v, rfl⟩
      have hx2 : ∃ z : Str, x = .str z ∧ (z ∈ ps ∨ z = "street") := by
        match i, hx with
        | 0, hx => exact ⟨_, (Option.some.inj hx).symm, ok.s⟩
        | 1, hx => exact ⟨_, (Option.some.inj hx).symm, ok.g⟩
      obtain ⟨z, rfl, hz⟩ := hx2
      refine ⟨_, rfl, rfl, _, rfl, ?_⟩
      refine ite2 (fun c => ?_) (fun c => iteF ⟨rfl, _, rfl⟩)
      have hz1 : z ∈ ps := by
        rcases hz with h | h
        · exact h
        · subst h
          simp at c
      refine ⟨_, rfl, _, rfl, e, _, rfl, DGet.k (k := Sum.inr z) (et _ _ (ex _ _ he)), _, rfl, ?_⟩
      rw [hs z hz1]
      exact iteF ⟨rfl, _, rfl⟩
    · rintro σ H3 ⟨rfl, v, rfl⟩
      refine ⟨_, rfl, _, rfl, rfl, _, rfl, ?_⟩
      rw [decide_eq_false (fun e => ok.ne (V.str.inj e))]
      refine iteF ?_
      refine ⟨_, rfl, _, rfl, ?_⟩
      cases hk : r.kept with
      | true => exact iteF (iteF (q H3 (ex.trans et)))
      | false =>
        obtain ⟨k1, k2⟩ := ok.k hk
        refine iteT ?_
        refine ⟨_, rfl, _, rfl, by rw [sizeLine_eq]; exact (by decide : 2 ≤ 16777216), fun t2 nt2 => ?_⟩
        refine ⟨t2, _, rfl, Or.inr (SqT.of upd_same), rfl, rfl, _, rfl, ?_⟩
        have e1 : inV (.str "street") [.str r.start, .str r.goal] = false := by
          have := inV_str "street" [r.start, r.goal]
          rw [show [V.str r.start, V.str r.goal] = [r.start, r.goal].map V.str from rfl, this]
          exact decide_eq_false fun h => by
            rcases List.mem_cons.mp h with h | h
            · exact k1 h.symm
            · exact k2 (List.mem_singleton.mp h).symm
        rw [e1]
        exact iteF (q _ ((ex.trans et).trans (Evl.Ex.new nt2)))
end
end Rk

namespace Rk
open PySem PySem.Spec PyProof.Rows L2 He Rb C8 SX
/-! ### making a town -/
structure MakX (P : Program) (w : World) (K : PySem.W.Frag) (mg : Str → Option Value) (base : Heap) (k : Nat) (x : Str) (C : Addr) (sp : Sp) : Prop where
  ex : ∃ (f : Addr) (fd : FuncData) (ps : List Str), Mk K C f ∧ FnOk P w K mg base (L2.CX P w) k f fd ps sp ∧ mg x = some (.ref C) ∧ Binds K fd ps []
theorem pe_mkX {X : Cx} {k j : Nat} {C : Addr} {sp : Sp} {x : Str} {p pos : Pos} {e : Expr} {es : List Expr} {t : TA} (c : MakX X.prog X.w X.K X.mg X.base k x C sp) (hr : Room j X.A) (hk : k + 1 ≤ j) (hg : Gl X x) (ha : PA X (e :: es) t)
    (hdb : (x == ("__debug__" : Str)) = false := by decide) (he : starEach (e :: es) X.env = (false, eval e X.env) :: starEach es X.env := by rfl) (hpl : (backTo pos (starEach es X.env)).any (·.1) = false := by rfl) :
    PE X (.Call (.Name x p) (e :: es) [] pos) (tMake C sp [] L2.E0 t) := by
  obtain ⟨f, fd, ps, M, F, hm, b⟩ := c.ex
  exact pe_make M F (hr.mono hk) hg hm b .nil passL ha hdb he hpl
def fs1 (a : V) : List (Str × V) := [(("_stations" : Str), a)]
def fs2 (a b : V) : List (Str × V) := [(("_stations" : Str), a), (("_positions" : Str), b)]
def fs3 (a b c : V) : List (Str × V) := [(("_stations" : Str), a), (("_positions" : Str), b), (("stations" : Str), c)]
def fs4 (a b c d : V) : List (Str × V) := [(("_stations" : Str), a), (("_positions" : Str), b), (("stations" : Str), c), (("rides" : Str), d)]
theorem put1 (a : V) : putF "_stations" a [] = fs1 a := rfl
theorem put2 (a b : V) : putF "_positions" b (fs1 a) = fs2 a b := by rfl
theorem put3 (a b c : V) : putF "stations" c (fs2 a b) = fs3 a b c := by rfl
theorem put4 (a b c d : V) : putF "rides" d (fs3 a b c) = fs4 a b c d := by rfl
/-- e.f = r(x), a step -/
theorem q_fldP {K' : PySem.W.Frag} {r : List V → Hp → VK → Prop} {te to : TE} {σ : L2.St} {H : Hp} {P : V → Hp → Prop} {D : Ends} {f : Str} {rest : TS} (h : EvP te σ H P)
    (k : ∀ v H1, Ex H H1 → P v H1 → r [v] H1 fun y H2 => to σ H2 fun x H3 => ∃ a C dx fs, x = .ref a ∧ H3 a = some (.ins C dx fs) ∧ Cls K' C ∧ NoAttr K' C f ∧ fs.length < 1000 ∧ rest D σ (upd H3 a (.ins C dx (putF f y fs)))) : tSeq (sFld K' to (tCB r (tCons te tNil)) f) rest D σ H := h.run k
theorem s_fldP {K' : PySem.W.Frag} {r : List V → Hp → VK → Prop} {te to : TE} {σ : L2.St} {H : Hp} {P : V → Hp → Prop} {D : Ends} {f : Str} (h : EvP te σ H P)
    (k : ∀ v H1, Ex H H1 → P v H1 → r [v] H1 fun y H2 => to σ H2 fun x H3 => ∃ a C dx fs, x = .ref a ∧ H3 a = some (.ins C dx fs) ∧ Cls K' C ∧ NoAttr K' C f ∧ fs.length < 1000 ∧ D.nx σ (upd H3 a (.ins C dx (putF f y fs)))) : sFld K' to (tCB r (tCons te tNil)) f D σ H := h.run k
/-- which station stands where -/
structure SIx (kvs : List (Key × V)) (ss : List Stn) (sa : List Addr) : Prop where
  at_ : ∀ (j : Nat) (s : Stn) (a : Addr), ss[j]? = some s → sa[j]? = some a → valV kvs (Sum.inr s.name) = some (.ref a)
  no : ∀ z : Str, z ∉ ss.map Stn.name → valV kvs (Sum.inr z) = none
  len : kvs.length = ss.length
theorem SIx.snoc {kvs : List (Key × V)} {ss : List Stn} {sa : List Addr} {s : Stn} {a : Addr} (h : SIx kvs ss sa) (hl : ss.length = sa.length) (hn : s.name ∉ ss.map Stn.name) : SIx (putK kvs (Sum.inr s.name) (.ref a)) (ss ++ [s]) (sa ++ [a]) := by
  refine ⟨fun j s' a' h1 h2 => ?_, fun z hz => ?_, ?_⟩
  · rw [valV_put]
    rcases snoc_get h1 with ⟨g1, g2⟩ | ⟨g1, g2⟩
    · rcases snoc_get h2 with ⟨g3, g4⟩ | ⟨g3, g4⟩
      · have hne : s'.name ≠ s.name := fun e => hn (by rw [← e]; exact List.mem_map_of_mem (List.mem_of_getElem? g2))
        rw [if_neg (fun e => hne (Sum.inr.inj e))]
        exact h.at_ j s' a' g2 g4
      · omega
    · rcases snoc_get h2 with ⟨g3, g4⟩ | ⟨g3, g4⟩
      · omega
      · subst g2 g4
        rw [if_pos rfl]
  · rw [List.map_append, List.mem_append] at hz
    rw [valV_put, if_neg (fun e => hz (.inr (by rw [Sum.inr.inj e]; exact List.mem_singleton.mpr rfl)))]
    exact h.no z fun h => hz (.inl h)
  · rw [putK_new _ (h.no _ hn), List.length_append, List.length_append, h.len]
    rfl
structure PIx (pvs : List (Key × V)) (rs : List Rd) : Prop where
  at_ : ∀ (j : Nat) (r : Rd), rs[j]? = some r → valV pvs (Sum.inr r.name) = some (.int (j : Int))
  no : ∀ z : Str, z ∉ rs.map Rd.name → valV pvs (Sum.inr z) = none
  len : pvs.length = rs.length
theorem PIx.snoc {pvs : List (Key × V)} {rs : List Rd} {r : Rd} (h : PIx pvs rs) (hn : r.name ∉ rs.map Rd.name) : PIx (putK pvs (Sum.inr r.name) (.int (pvs.length : Int))) (rs ++ [r]) := by
  refine ⟨fun j r' h1 => ?_, fun z hz => ?_, ?_⟩
  · rw [valV_put]
    rcases snoc_get h1 with ⟨g1, g2⟩ | ⟨g1, g2⟩
    · have hne : r'.name ≠ r.name := fun e => hn (by rw [← e]; exact List.mem_map_of_mem (List.mem_of_getElem? g2))
      rw [if_neg (fun e => hne (Sum.inr.inj e))]
      exact h.at_ j r' g2
    · subst g2
      rw [if_pos rfl, h.len, g1]
  · rw [List.map_append, List.mem_append] at hz
    rw [valV_put, if_neg (fun e => hz (.inr (by rw [Sum.inr.inj e]; exact List.mem_singleton.mpr rfl)))]
    exact h.no z fun h => hz (.inl h)
  · rw [putK_new _ (h.no _ hn), List.length_append, List.length_append, h.len]
    rfl
/-- the town at x -/
structure TownF (K : PySem.W.Frag) (H : Hp) (x : Addr) (ss : List Stn) (rs : List Rd) (sa ra : List Addr) : Prop where
  ex : ∃ (dx sd pd st rd : Addr) (kvs pvs : List (Key × V)), H x = some (.ins (ga K "Town") dx (fs4 (.ref sd) (.ref pd) (.ref st) (.ref rd))) ∧ H sd = some (.dK kvs) ∧ H pd = some (.dK pvs) ∧ H st = some (.tup (sa.map V.ref)) ∧ H rd = some (.tup (ra.map V.ref)) ∧ SIx kvs ss sa ∧ PIx pvs rs
  st : TupsAt H sa (ss.map stV)
  rt : TupsAt H ra (rs.map rdV)
  ok : TownOk ss rs
theorem TownF.keep {K : PySem.W.Frag} {H H' : Hp} {x : Addr} {ss : List Stn} {rs : List Rd} {sa ra : List Addr} (t : TownF K H x ss rs sa ra) (k : NL H H') : TownF K H' x ss rs sa ra := by
  obtain ⟨dx, sd, pd, st, rd, kvs, pvs, h1, h2, h3, h4, h5, h6, h7⟩ := t.ex
  exact ⟨⟨dx, sd, pd, st, rd, kvs, pvs, k _ _ (fun _ z => by cases z) h1, k _ _ (fun _ z => by cases z) h2, k _ _ (fun _ z => by cases z) h3, k _ _ (fun _ z => by cases z) h4, k _ _ (fun _ z => by cases z) h5, h6, h7⟩, t.st.keep k, t.rt.keep k, t.ok⟩
theorem sqL_fri {K : PySem.W.Frag} {H H' : Hp} {a p C dx : Addr} {fs : List (Str × V)} {xs : List V} (h : SqL K H a xs) (hp : H p = some (.ins C dx fs)) (f : Fr p H H') : SqL K H' a xs := by
  rcases h with (h | ⟨o, h⟩) | h
  · exact .inl (.inl (f a _ (fun e => by rw [e, hp] at h; cases h) h))
  · exact .inl (.inr ⟨o, f a _ (fun e => by rw [e, hp] at h; cases h) h⟩)
  · exact .inr h
theorem tups_fri {H H' : Hp} {p C dx : Addr} {fs : List (Str × V)} {as : List Addr} {rows : List (List V)} (h : TupsAt H as rows) (hp : H p = some (.ins C dx fs)) (f : Fr p H H') : TupsAt H' as rows :=
  paired_imp (fun a r e => f a _ (fun z => by rw [z, hp] at e; cases e) e) h
theorem TupsAt.mem {H : Hp} : ∀ {as : List Addr} {rows : List (List V)} {a : Addr}, TupsAt H as rows → a ∈ as → ∃ r, H a = some (.tup r)
  | _ :: _, _ :: _, _, .cons h t, m => by
    rcases List.mem_cons.mp m with e | e
    · exact ⟨_, by rw [e]; exact h⟩
    · exact TupsAt.mem t e
def spTown (K : PySem.W.Frag) : Sp := fun vs H Q _ => ∃ (x dx sl rl : Addr) (ss : List Stn) (rs : List Rd) (sa ra : List Addr), vs = [.ref x, .ref sl, .ref rl] ∧ H x = some (.ins (ga K "Town") dx []) ∧ SqL K H sl (sa.map V.ref) ∧ TupsAt H sa (ss.map stV) ∧ SqL K H rl (ra.map V.ref) ∧ TupsAt H ra (rs.map rdV) ∧ TownOk ss rs ∧
  ∀ H', TownF K H' x ss rs sa ra → Fr x H H' → Q .non H'
abbrev N_Town___init__ : List Str := ["self", "stations", "rides", "station", "ride"]
theorem sc_Town___init__ : FnScope N_Town___init__ ["self", "stations", "rides"] (defScope s_Town___init__) := ⟨rfl, rfl, rfl, by decide +kernel, rfl, by decide +kernel, by decide +kernel⟩
section
variable {P : Program} {w : World} {K : PySem.W.Frag} {mg : Str → Option Value} {base : Heap}
theorem mk_town (T : Txt K mg) : MakX P w K mg base 4 "Town" (ga K "Town") (spTown K) := by
  have C_check_count := ok_count (P := P) (w := w) (base := base) T
  have C_check_station := ok_station (P := P) (w := w) (base := base) T
  have C_check_ride := ok_ride (P := P) (w := w) (base := base) T
  obtain ⟨fd, F⟩ := T.d_Town___init__
  obtain ⟨u1, co1⟩ := T.co_Town_MOST_STATIONS
  obtain ⟨u2, co2⟩ := T.co_Town_MOST_RIDES
  refine ⟨_, fd, _, T.mk_Town, fn_ok0 F sc_Town___init__ (fun vs H Q E h => ?_) (fun cdv A outer s H vs Q E hr h => ?_), T.m_Town, F.bindsN fun _ _ _ _ _ _ us hl => match us, hl with | [_, _, _], _ => rfl⟩
  · obtain ⟨x, dx, sl, rl, ss, rs, sa, ra, rfl, _⟩ := h
    rfl
  · obtain ⟨x, dx, sl, rl, ss, rs, sa, ra, rfl, hx, hS, hst, hR, hrt, ok, q⟩ := h
    have hu := hu_of hr
    have hsl : sa.length = ss.length := by rw [paired_len hst, List.length_map]
    have hrl : ra.length = rs.length := by rw [paired_len hrt, List.length_map]
    have okl := ok.sl
    have okr := ok.rl
    refine ⟨_, pss_cons (ps_expr (pe_cal C_check_count hr (by decide) rfl (pa_cons (pe_callB (call_lenK (K := K)) (by rfl) T.n_len T.b_len (pa_cons (pv 1) (pa_nil))) (pa_cons (pe_conK (K := K) (pv 0) rfl) (pa_nil)))))
      (pss_cons (ps_expr (pe_cal C_check_count hr (by decide) rfl (pa_cons (pe_callB (call_lenK (K := K)) (by rfl) T.n_len T.b_len (pa_cons (pv 2) (pa_nil))) (pa_cons (pe_conK (K := K) (pv 0) rfl) (pa_nil)))))
      (pss_cons (ps_fld (pv 0) (pe_dnewK) rfl)
      (pss_cons (ps_for PassesOwn.never rfl (pi_listK (K := K) (pv 1)) (pg_name (i := 3) sc_Town___init__.nd rfl (Or.inl rfl))
      (pss_cons (ps_expr (pe_cal C_check_station hr (by decide) rfl (pa_cons (pv 3) (pa_cons (pe_fldK (K := K) (pv 0) rfl) (pa_nil)))))
      (pss_one (ps_dput hu (pe_fldK (K := K) (pv 0) rfl) (pe_ix (ix_tupK (K := K)) (pv 3) (pe_int) (fun _ _ => rfl)) (pe_callTy (call_tupleK (K := K)) (by rfl) T.n_tuple T.b_tuple (pa_cons (pv 3) (pa_nil))) rfl))))
      (pss_cons (ps_fld (pv 0) (pe_dnewK) rfl)
      (pss_cons (ps_for PassesOwn.never rfl (pi_listK (K := K) (pv 2)) (pg_name (i := 4) sc_Town___init__.nd rfl (Or.inl rfl))
      (pss_cons (ps_expr (pe_cal C_check_ride hr (by decide) rfl (pa_cons (pv 4) (pa_cons (pe_fldK (K := K) (pv 0) rfl) (pa_cons (pe_fldK (K := K) (pv 0) rfl) (pa_nil))))))
      (pss_one (ps_dput hu (pe_fldK (K := K) (pv 0) rfl) (pe_ix (ix_tupK (K := K)) (pv 4) (pe_int) (fun _ _ => rfl)) (pe_callB call_lenD (by rfl) T.n_len T.b_len (pa_cons (pe_fldK (K := K) (pv 0) rfl) (pa_nil))) rfl))))
      (pss_cons (ps_fld (pv 0) (pe_callTy (call_tupleK (K := K)) (by rfl) T.n_tuple T.b_tuple (pa_cons (pe_lc (own := [("station", 3)]) rfl sc_Town___init__.nd (pi_listK (K := K) (pv 1)) (blkOk_by (N := N_Town___init__) (sc := defScope s_Town___init__) (by decide +kernel)) (fun _ _ _ _ _ => pg_name (i := 3) sc_Town___init__.nd rfl (Or.inl rfl)) (fun _ _ _ _ _ => pts_nil) (fun _ _ _ _ _ => pe_callTy (call_tupleK (K := K)) (by rfl) T.n_tuple T.b_tuple (pa_cons (pv 3) (pa_nil)))) (pa_nil))) rfl)
      (pss_one (ps_fld (pv 0) (pe_callTy (call_tupleK (K := K)) (by rfl) T.n_tuple T.b_tuple (pa_cons (pe_lc (own := [("ride", 4)]) rfl sc_Town___init__.nd (pi_listK (K := K) (pv 2)) (blkOk_by (N := N_Town___init__) (sc := defScope s_Town___init__) (by decide +kernel)) (fun _ _ _ _ _ => pg_name (i := 4) sc_Town___init__.nd rfl (Or.inl rfl)) (fun _ _ _ _ _ => pts_nil) (fun _ _ _ _ _ => pe_callTy (call_tupleK (K := K)) (by rfl) T.n_tuple T.b_tuple (pa_cons (pv 4) (pa_nil)))) (pa_nil))) rfl)))))))), ?_⟩
    refine ⟨_, rfl, _, sa.length, rfl, .inl ⟨_, hS, (List.length_map ..).symm⟩, _, rfl, x, _, dx, _, _, _, rfl, hx, T.cl_Town, co1, rfl, _, _, rfl, by omega, ?_⟩
    refine ⟨_, rfl, _, ra.length, rfl, .inl ⟨_, hR, (List.length_map ..).symm⟩, _, rfl, x, _, dx, _, _, _, rfl, hx, T.cl_Town, co2, rfl, _, _, rfl, by omega, ?_⟩
    refine fun sd nsd => ?_
    have xsd : x ≠ sd := ne_of_none hx nsd
    refine ⟨_, rfl, x, _, dx, _, rfl, by rw [upd_ne xsd]; exact hx, T.cl_Town, T.na_Town__stations, by decide, ?_⟩
    rw [put1]
    have fr1 : Fr x H (upd (upd H sd (.dK [])) x (.ins (ga K "Town") dx (fs1 (.ref sd)))) := (Fr.ex (Evl.Ex.new nsd)).trans Fr.upd
    have hx1 : (upd (upd H sd (.dK [])) x (.ins (ga K "Town") dx (fs1 (.ref sd)))) x = some (.ins (ga K "Town") dx (fs1 (.ref sd))) := upd_same
    have hd1 : (upd (upd H sd (.dK [])) x (.ins (ga K "Town") dx (fs1 (.ref sd)))) sd = some (.dK []) := by rw [upd_ne xsd.symm]; exact upd_same
    generalize upd (upd H sd (.dK [])) x (.ins (ga K "Town") dx (fs1 (.ref sd))) = H1 at fr1 hx1 hd1
    refine ⟨_, rfl, sl, rfl, ⟨_, sqL_fri hS hx fr1⟩, for_list (xs := sa.map V.ref) (fun i σ H' => ∃ (kvs : List (Key × V)) (v : Option V), Fr x H H' ∧ H' x = some (.ins (ga K "Town") dx (fs1 (.ref sd))) ∧ H' sd = some (.dK kvs) ∧ SIx kvs (ss.take i) (sa.take i) ∧ σ = [some (.ref x), some (.ref sl), some (.ref rl), v, none]) ?_ ?_ ?_ ?_⟩
    · exact ⟨[], none, fr1, hx1, hd1, ⟨fun j s a h => by simp at h, fun z hz => rfl, rfl⟩, rfl⟩
    · rintro i σ H' hi ⟨kvs, v, f, _⟩
      exact sqL_fri hS hx f
    · rintro i y σ H2 hy ⟨kvs, v, f2, hx2, hd2, six, rfl⟩
      have hi : i < sa.length := by
        apply Classical.byContradiction
        intro hc
        rw [List.getElem?_eq_none (by rw [List.length_map]; omega)] at hy
        cases hy
      have hgs : ss[i]? = some (ss[i]'(by omega)) := List.getElem?_eq_getElem (by omega)
      obtain ⟨a, hga, ha⟩ := (tups_fri hst hx f2).get (i := i) (r := stV (ss[i]'(by omega))) (by rw [List.getElem?_map, hgs]; rfl)
      rw [List.getElem?_map, hga] at hy
      cases hy
      have hms : ss[i]'(by omega) ∈ ss := List.getElem_mem _
      generalize ss[i]'(by omega) = s at hgs ha hms
      have ets : ss.take (i + 1) = ss.take i ++ [s] := by rw [List.take_succ, hgs]; rfl
      have eta : sa.take (i + 1) = sa.take i ++ [a] := by rw [List.take_succ, hga]; rfl
      have hnot : s.name ∉ (ss.take i).map Stn.name := by
        have h1 := ok.sn.sublist (List.Sublist.map Stn.name (List.take_sublist (i + 1) ss))
        rw [ets, List.map_append] at h1
        exact fun h => (List.nodup_append.mp h1).2.2 _ h _ (List.mem_singleton.mpr rfl) rfl
      refine ⟨_, rfl, _, rfl, x, _, dx, _, .ref sd, rfl, hx2, T.cl_Town, T.na_Town__stations, rfl, a, sd, s, kvs, rfl, SqT.of ha, ok.so s hms, ok.sm _ (List.mem_map_of_mem hms), hd2, six.no _ hnot, fun H3 e3 => ?_⟩
      refine ⟨_, rfl, a, _, rfl, .inr ⟨SqT.of (e3 _ _ ha), ?_⟩⟩
      have hkl : kvs.length < sizeLine := by rw [six.len, List.length_take, sizeLine_eq]; omega
      refine ⟨_, rfl, x, _, dx, _, .ref sd, rfl, e3 _ _ hx2, T.cl_Town, T.na_Town__stations, rfl, _, rfl, a, _, 0, .str s.name, rfl, rfl, SqT.of (e3 _ _ ha), atI_nat (j := 0) rfl, sd, _, rfl, DPut.k (k := Sum.inr s.name) (e3 _ _ hd2) hkl, ?_⟩
      exact ⟨_, _, (f2.trans (Fr.ex e3)).new nsd, by rw [upd_ne xsd]; exact e3 _ _ hx2, upd_same, by rw [ets, eta]; exact six.snoc (by rw [List.length_take, List.length_take, hsl]) hnot, rfl⟩
    · rintro σ H2 ⟨kvs, v, f2, hx2, hd2, six, rfl⟩
      rw [List.length_map, List.take_of_length_le (by omega), List.take_of_length_le (by omega)] at six
      refine fun pd npd => ?_
      obtain ⟨pd0, pdx⟩ := f2.free hx2 npd
      have pdsd : sd ≠ pd := ne_of_none hd2 npd
      refine ⟨_, rfl, x, _, dx, _, rfl, by rw [upd_ne pdx.symm]; exact hx2, T.cl_Town, T.na_Town__positions, (by show 1 < 1000; decide), ?_⟩
      rw [put2]
      have fr3 : Fr x H (upd (upd H2 pd (.dK [])) x (.ins (ga K "Town") dx (fs2 (.ref sd) (.ref pd)))) := (f2.trans (Fr.ex (Evl.Ex.new npd))).trans Fr.upd
      have hx3 : (upd (upd H2 pd (.dK [])) x (.ins (ga K "Town") dx (fs2 (.ref sd) (.ref pd)))) x = some (.ins (ga K "Town") dx (fs2 (.ref sd) (.ref pd))) := upd_same
      have hd3 : (upd (upd H2 pd (.dK [])) x (.ins (ga K "Town") dx (fs2 (.ref sd) (.ref pd)))) sd = some (.dK kvs) := by rw [upd_ne xsd.symm, upd_ne pdsd]; exact hd2
      have hp3 : (upd (upd H2 pd (.dK [])) x (.ins (ga K "Town") dx (fs2 (.ref sd) (.ref pd)))) pd = some (.dK []) := by rw [upd_ne pdx]; exact upd_same
      generalize upd (upd H2 pd (.dK [])) x (.ins (ga K "Town") dx (fs2 (.ref sd) (.ref pd))) = H3 at fr3 hx3 hd3 hp3
      refine ⟨_, rfl, rl, rfl, ⟨_, sqL_fri hR hx fr3⟩, for_list (xs := ra.map V.ref) (fun i σ H' => ∃ (pvs : List (Key × V)) (v' : Option V), Fr x H H' ∧ H' x = some (.ins (ga K "Town") dx (fs2 (.ref sd) (.ref pd))) ∧ H' sd = some (.dK kvs) ∧ H' pd = some (.dK pvs) ∧ PIx pvs (rs.take i) ∧ σ = [some (.ref x), some (.ref sl), some (.ref rl), v, v']) ?_ ?_ ?_ ?_⟩
      · exact ⟨[], none, fr3, hx3, hd3, hp3, ⟨fun j s h => by simp at h, fun z hz => rfl, rfl⟩, rfl⟩
      · rintro i σ H' hi ⟨pvs, v', f, _⟩
        exact sqL_fri hR hx f
      · rintro i y σ H4 hy ⟨pvs, v', f4, hx4, hd4, hp4, pix, rfl⟩
        have hi : i < ra.length := by
          apply Classical.byContradiction
          intro hc
          rw [List.getElem?_eq_none (by rw [List.length_map]; omega)] at hy
          cases hy
        have hgs : rs[i]? = some (rs[i]'(by omega)) := List.getElem?_eq_getElem (by omega)
        obtain ⟨a, hga, ha⟩ := (tups_fri hrt hx f4).get (i := i) (r := rdV (rs[i]'(by omega))) (by rw [List.getElem?_map, hgs]; rfl)
        rw [List.getElem?_map, hga] at hy
        cases hy
        have hms : rs[i]'(by omega) ∈ rs := List.getElem_mem _
        generalize rs[i]'(by omega) = s at hgs ha hms
        have ets : rs.take (i + 1) = rs.take i ++ [s] := by rw [List.take_succ, hgs]; rfl
        have hnot : s.name ∉ (rs.take i).map Rd.name := by
          have h1 := ok.rn.sublist (List.Sublist.map Rd.name (List.take_sublist (i + 1) rs))
          rw [ets, List.map_append] at h1
          exact fun h => (List.nodup_append.mp h1).2.2 _ h _ (List.mem_singleton.mpr rfl) rfl
        have hss : ∀ z ∈ ss.map Stn.name, (valV kvs (Sum.inr z)).isSome = true := fun z hz => by
          obtain ⟨s', hs', rfl⟩ := List.mem_map.mp hz
          obtain ⟨j, hj, e⟩ := List.mem_iff_getElem.mp hs'
          have h1 : ss[j]? = some s' := by rw [List.getElem?_eq_getElem hj, e]
          have h2 : sa[j]? = some (sa[j]'(by omega)) := List.getElem?_eq_getElem (by omega)
          rw [six.at_ j s' _ h1 h2]
          rfl
        refine ⟨_, rfl, _, rfl, x, _, dx, _, .ref pd, rfl, hx4, T.cl_Town, T.na_Town__positions, rfl, _, rfl, x, _, dx, _, .ref sd, rfl, hx4, T.cl_Town, T.na_Town__stations, rfl, a, pd, sd, s, ss.map Stn.name, pvs, kvs, rfl, SqT.of ha, ok.ro s hms, ok.rm _ (List.mem_map_of_mem hms), hp4, pix.no _ hnot, hd4, hss, fun H5 e5 => ?_⟩
        have hkl : pvs.length < sizeLine := by rw [pix.len, List.length_take, sizeLine_eq]; omega
        refine ⟨_, rfl, x, _, dx, _, .ref pd, rfl, e5 _ _ hx4, T.cl_Town, T.na_Town__positions, rfl, pd, pvs, rfl, e5 _ _ hp4, ?_⟩
        refine ⟨_, rfl, x, _, dx, _, .ref pd, rfl, e5 _ _ hx4, T.cl_Town, T.na_Town__positions, rfl, _, rfl, a, _, 0, .str s.name, rfl, rfl, SqT.of (e5 _ _ ha), atI_nat (j := 0) rfl, pd, _, rfl, DPut.k (k := Sum.inr s.name) (e5 _ _ hp4) hkl, ?_⟩
        exact ⟨_, _, (f4.trans (Fr.ex e5)).new pd0, by rw [upd_ne pdx.symm]; exact e5 _ _ hx4, by rw [upd_ne pdsd]; exact e5 _ _ hd4, upd_same, by rw [ets]; exact pix.snoc hnot, rfl⟩
      · rintro σ H4 ⟨pvs, v', f4, hx4, hd4, hp4, pix, rfl⟩
        rw [List.length_map, List.take_of_length_le (by omega)] at pix
        have hst4 := tups_fri hst hx f4
        have hrt4 := tups_fri hrt hx f4
        dsimp only []
        refine q_fldP (ev_lcL (te := tCB (rTupK K) (tCons (tVar 3) tNil)) (p := fun _ => true) (g := V.ref) sa V.ref (Evl.ev_var rfl) (sqL_fri hS hx f4) (by omega) (fun x => rfl) (fun x hx H1 e => et_yes) fun y hy _ H5 e5 H6 e6 Q2 k => ?_) fun v5 H5 e5 ⟨D, hv, hD, hH5⟩ => ?_
        · obtain ⟨r, hr⟩ := hst4.mem hy
          exact ⟨_, rfl, y, r, rfl, .inr ⟨SqT.of (e6 _ _ (e5 _ _ hr)), k _ (Evl.Ex.refl _)⟩⟩
        · subst hv
          rw [List.filter_eq_self.mpr (fun _ _ => rfl)] at hH5
          refine ⟨D, _, rfl, .inl ⟨SqL.of hH5, fun st nst => ?_⟩⟩
          have f5 := f4.trans (Fr.ex e5)
          obtain ⟨st0, stx⟩ := f5.free (e5 _ _ hx4) nst
          refine ⟨_, rfl, x, _, dx, _, rfl, by rw [upd_ne stx.symm]; exact e5 _ _ hx4, T.cl_Town, T.na_Town_stations, (by show 2 < 1000; decide), ?_⟩
          rw [put3]
          have e6 := e5.trans (Evl.Ex.new (o := .tup (sa.map V.ref)) nst)
          have fr6 : Fr x H (upd (upd H5 st (.tup (sa.map V.ref))) x (.ins (ga K "Town") dx (fs3 (.ref sd) (.ref pd) (.ref st)))) := (f4.trans (Fr.ex e6)).trans Fr.upd
          have hx6 : (upd (upd H5 st (.tup (sa.map V.ref))) x (.ins (ga K "Town") dx (fs3 (.ref sd) (.ref pd) (.ref st)))) x = some (.ins (ga K "Town") dx (fs3 (.ref sd) (.ref pd) (.ref st))) := upd_same
          have hd6 : (upd (upd H5 st (.tup (sa.map V.ref))) x (.ins (ga K "Town") dx (fs3 (.ref sd) (.ref pd) (.ref st)))) sd = some (.dK kvs) := by rw [upd_ne xsd.symm]; exact e6 _ _ hd4
          have hp6 : (upd (upd H5 st (.tup (sa.map V.ref))) x (.ins (ga K "Town") dx (fs3 (.ref sd) (.ref pd) (.ref st)))) pd = some (.dK pvs) := by rw [upd_ne pdx]; exact e6 _ _ hp4
          have ht6 : (upd (upd H5 st (.tup (sa.map V.ref))) x (.ins (ga K "Town") dx (fs3 (.ref sd) (.ref pd) (.ref st)))) st = some (.tup (sa.map V.ref)) := by rw [upd_ne stx]; exact upd_same
          generalize upd (upd H5 st (.tup (sa.map V.ref))) x (.ins (ga K "Town") dx (fs3 (.ref sd) (.ref pd) (.ref st))) = H6 at fr6 hx6 hd6 hp6 ht6
          have hrt6 := tups_fri hrt hx fr6
          refine s_fldP (ev_lcL (te := tCB (rTupK K) (tCons (tVar 4) tNil)) (p := fun _ => true) (g := V.ref) ra V.ref (Evl.ev_var rfl) (sqL_fri hR hx fr6) (by omega) (fun x => rfl) (fun x hx H1 e => et_yes) fun y hy _ H5 e5 H6 e6 Q2 k => ?_) fun v7 H7 e7 ⟨D2, hv, hD2, hH7⟩ => ?_
          · obtain ⟨r, hr⟩ := hrt6.mem hy
            exact ⟨_, rfl, y, r, rfl, .inr ⟨SqT.of (e6 _ _ (e5 _ _ hr)), k _ (Evl.Ex.refl _)⟩⟩
          · subst hv
            rw [List.filter_eq_self.mpr (fun _ _ => rfl)] at hH7
            refine ⟨D2, _, rfl, .inl ⟨SqL.of hH7, fun rt nrt => ?_⟩⟩
            have f7 := fr6.trans (Fr.ex e7)
            obtain ⟨rt0, rtx⟩ := f7.free (e7 _ _ hx6) nrt
            refine ⟨_, rfl, x, _, dx, _, rfl, by rw [upd_ne rtx.symm]; exact e7 _ _ hx6, T.cl_Town, T.na_Town_rides, (by show 3 < 1000; decide), ?_⟩
            rw [put4]
            have e8 := e7.trans (Evl.Ex.new (o := .tup (ra.map V.ref)) nrt)
            have fr8 : Fr x H (upd (upd H7 rt (.tup (ra.map V.ref))) x (.ins (ga K "Town") dx (fs4 (.ref sd) (.ref pd) (.ref st) (.ref rt)))) := (fr6.trans (Fr.ex e8)).trans Fr.upd
            refine q _ ⟨⟨dx, sd, pd, st, rt, kvs, pvs, upd_same, by rw [upd_ne xsd.symm]; exact e8 _ _ hd6, by rw [upd_ne pdx]; exact e8 _ _ hp6, by rw [upd_ne stx]; exact e8 _ _ ht6, by rw [upd_ne rtx]; exact upd_same, six, pix⟩, tups_fri hst hx fr8, tups_fri hrt hx fr8, ok⟩ fr8
end
end Rk

namespace Rk
open PySem PySem.Spec PyProof.Rows L2 He Rb C8 SX
/-! ### a town's methods -/
def exH (H : Hp) (d : Addr) (z : Str) : Hp := upd H d (.xd [(("name" : Str), .str z)])
def spStnA (K : PySem.W.Frag) : Sp := fun vs H Q E => ∃ (x : Addr) (z : Str) (ss : List Stn) (rs : List Rd) (sa ra : List Addr), vs = [.ref x, .str z] ∧ TownF K H x ss rs sa ra ∧
  ((∃ s, s ∈ ss ∧ s.name = z ∧ ∀ a, H a = some (.tup (stV s)) → Q (.ref a) H) ∨ (z ∉ ss.map Stn.name ∧ ∀ d, H d = none → E (.ref (ga K "UnknownStation")) (some d) (exH H d z)))
def spStnV (K : PySem.W.Frag) (g : Stn → V) : Sp := fun vs H Q E => ∃ (x : Addr) (z : Str) (ss : List Stn) (rs : List Rd) (sa ra : List Addr), vs = [.ref x, .str z] ∧ TownF K H x ss rs sa ra ∧
  ((∃ s, s ∈ ss ∧ s.name = z ∧ Q (g s) H) ∨ (z ∉ ss.map Stn.name ∧ ∀ d, H d = none → E (.ref (ga K "UnknownStation")) (some d) (exH H d z)))
def spRideV (K : PySem.W.Frag) (g : Nat → Addr → V) : Sp := fun vs H Q E => ∃ (x : Addr) (z : Str) (ss : List Stn) (rs : List Rd) (sa ra : List Addr), vs = [.ref x, .str z] ∧ TownF K H x ss rs sa ra ∧
  ((∃ j r a, rs[j]? = some r ∧ ra[j]? = some a ∧ r.name = z ∧ Q (g j a) H) ∨ (z ∉ rs.map Rd.name ∧ ∀ d, H d = none → E (.ref (ga K "UnknownRide")) (some d) (exH H d z)))
def pas (rs : List Rd) : List Int := rs.map fun r => if r.kept then 1 else 2
def spPasses (K : PySem.W.Frag) : Sp := fun vs H Q _ => ∃ (x : Addr) (ss : List Stn) (rs : List Rd) (sa ra : List Addr), vs = [.ref x] ∧ TownF K H x ss rs sa ra ∧ ∀ H', Ex H H' → Q (.int (pas rs).sum) H'
abbrev N_UnknownStation___init__ : List Str := ["self", "name"]
theorem sc_UnknownStation___init__ : FnScope N_UnknownStation___init__ ["self", "name"] (defScope s_UnknownStation___init__) := ⟨rfl, rfl, rfl, by decide +kernel, rfl, by decide +kernel, by decide +kernel⟩
abbrev N_UnknownRide___init__ : List Str := ["self", "name"]
theorem sc_UnknownRide___init__ : FnScope N_UnknownRide___init__ ["self", "name"] (defScope s_UnknownRide___init__) := ⟨rfl, rfl, rfl, by decide +kernel, rfl, by decide +kernel, by decide +kernel⟩
abbrev N_Town__station : List Str := ["self", "name"]
theorem sc_Town__station : FnScope N_Town__station ["self", "name"] (defScope s_Town__station) := ⟨rfl, rfl, rfl, by decide +kernel, rfl, by decide +kernel, by decide +kernel⟩
abbrev N_Town_docks : List Str := ["self", "station"]
theorem sc_Town_docks : FnScope N_Town_docks ["self", "station"] (defScope s_Town_docks) := ⟨rfl, rfl, rfl, by decide +kernel, rfl, by decide +kernel, by decide +kernel⟩
abbrev N_Town_bikes : List Str := ["self", "station"]
theorem sc_Town_bikes : FnScope N_Town_bikes ["self", "station"] (defScope s_Town_bikes) := ⟨rfl, rfl, rfl, by decide +kernel, rfl, by decide +kernel, by decide +kernel⟩
abbrev N_Town_free : List Str := ["self", "station"]
theorem sc_Town_free : FnScope N_Town_free ["self", "station"] (defScope s_Town_free) := ⟨rfl, rfl, rfl, by decide +kernel, rfl, by decide +kernel, by decide +kernel⟩
abbrev N_Town_ride : List Str := ["self", "name"]
theorem sc_Town_ride : FnScope N_Town_ride ["self", "name"] (defScope s_Town_ride) := ⟨rfl, rfl, rfl, by decide +kernel, rfl, by decide +kernel, by decide +kernel⟩
abbrev N_Town_position : List Str := ["self", "name"]
theorem sc_Town_position : FnScope N_Town_position ["self", "name"] (defScope s_Town_position) := ⟨rfl, rfl, rfl, by decide +kernel, rfl, by decide +kernel, by decide +kernel⟩
abbrev N_Town_passes : List Str := ["self", "_", "start", "goal", "kept"]
theorem sc_Town_passes : FnScope N_Town_passes ["self"] (defScope s_Town_passes) := ⟨rfl, rfl, rfl, by decide +kernel, rfl, by decide +kernel, by decide +kernel⟩
section
variable {P : Program} {w : World} {K : PySem.W.Frag} {mg : Str → Option Value} {base : Heap}
theorem xmk_station (T : Txt K mg) : XMk P w K mg base "UnknownStation" (ga K "UnknownStation") "name" := by
  obtain ⟨fd, F⟩ := T.d_UnknownStation___init__
  refine ⟨T.ox_UnknownStation, T.m_UnknownStation, T.na_UnknownStation_name, _, fd, _, T.in_UnknownStation.1, T.in_UnknownStation.2, fn_ok0 F sc_UnknownStation___init__ (fun vs H Q E h => ?_) (fun cdv A outer s H vs Q E hr h => ?_), F.bindsN fun _ _ _ _ _ _ us hl => match us, hl with | [_, _], _ => rfl⟩
  · obtain ⟨a, v, rfl, _⟩ := h
    rfl
  · obtain ⟨a, v, rfl, ha, q⟩ := h
    refine ⟨_, pss_one (ps_ost (pv 0) (pv 1)), ?_⟩
    exact ⟨_, rfl, _, rfl, a, _, rfl, T.ox_UnknownStation, T.na_UnknownStation_name, .inl ⟨ha, q⟩⟩
theorem xmk_ride (T : Txt K mg) : XMk P w K mg base "UnknownRide" (ga K "UnknownRide") "name" := by
  obtain ⟨fd, F⟩ := T.d_UnknownRide___init__
  refine ⟨T.ox_UnknownRide, T.m_UnknownRide, T.na_UnknownRide_name, _, fd, _, T.in_UnknownRide.1, T.in_UnknownRide.2, fn_ok0 F sc_UnknownRide___init__ (fun vs H Q E h => ?_) (fun cdv A outer s H vs Q E hr h => ?_), F.bindsN fun _ _ _ _ _ _ us hl => match us, hl with | [_, _], _ => rfl⟩
  · obtain ⟨a, v, rfl, _⟩ := h
    rfl
  · obtain ⟨a, v, rfl, ha, q⟩ := h
    refine ⟨_, pss_one (ps_ost (pv 0) (pv 1)), ?_⟩
    exact ⟨_, rfl, _, rfl, a, _, rfl, T.ox_UnknownRide, T.na_UnknownRide_name, .inl ⟨ha, q⟩⟩
theorem me_station (T : Txt K mg) : Met P w K mg base 3 (ga K "Town") "_station" (spStnA K) := by
  have X_UnknownStation := xmk_station (P := P) (w := w) (base := base) T
  obtain ⟨fd, F⟩ := T.d_Town__station
  refine met_of F (fn_okX F sc_Town__station (fun vs H Q E h => ?_) (fun cdv A outer s H vs Q E hr h => ?_)) T.cl_Town T.me_Town__station fun _ _ _ _ _ _ us hl => match us, hl with | [_, _], _ => rfl
  · obtain ⟨x, z, ss, rs, sa, ra, rfl, _⟩ := h
    rfl
  · obtain ⟨x, z, ss, rs, sa, ra, rfl, t, h⟩ := h
    have hu := hu_of hr
    obtain ⟨dx, sd, pd, st, rd, kvs, pvs, hx, hs, hp, hst, hrt, six, pix⟩ := t.ex
    refine ⟨_, pss_cons (ps_if (pt_cmp (pc_dnotin hu (pv 1) (pe_fldK (K := K) (pv 0) rfl)))
      (pss_one (ps_raise rfl (takes_of rfl rfl rfl rfl) (pmk_x X_UnknownStation (mono_var (mono_nil)) hr (by decide) rfl (pa_cons (pv 1) (pa_nil)))))
      (pss_nil))
      (pss_one (ps_ret (pe_dget hu (pe_fldK (K := K) (pv 0) rfl) (pv 1) (fun _ _ => rfl)))), ?_⟩
    refine ⟨_, rfl, _, rfl, x, _, dx, _, .ref sd, rfl, hx, T.cl_Town, T.na_Town__stations, rfl, sd, _, rfl, DGet.k (k := Sum.inr z) hs, _, rfl, ?_⟩
    rcases h with ⟨s0, hm, rfl, q⟩ | ⟨hn, q⟩
    · obtain ⟨j, hj, e⟩ := List.mem_iff_getElem.mp hm
      have h1 : ss[j]? = some s0 := by rw [List.getElem?_eq_getElem hj, e]
      obtain ⟨a, h2, ha⟩ := t.st.get (i := j) (r := stV s0) (by rw [List.getElem?_map, h1]; rfl)
      have hv := six.at_ j s0 a h1 h2
      have hg : DGet H sd (.str s0.name) (some (.ref a)) := by
        have := DGet.k (k := Sum.inr s0.name) hs
        rw [hv] at this
        exact this
      rw [hv]
      exact iteF ⟨_, rfl, x, _, dx, _, .ref sd, rfl, hx, T.cl_Town, T.na_Town__stations, rfl, _, rfl, sd, .ref a, rfl, hg, q a ha⟩
    · rw [six.no z hn]
      exact iteT ⟨_, rfl, _, rfl, fun d hd => q d hd⟩
theorem me_docks (T : Txt K mg) : Met P w K mg base 4 (ga K "Town") "docks" (spStnV K fun s => .int s.docks) := by
  have M__station := me_station (P := P) (w := w) (base := base) T
  obtain ⟨fd, F⟩ := T.d_Town_docks
  refine met_of F (fn_okX F sc_Town_docks (fun vs H Q E h => ?_) (fun cdv A outer s H vs Q E hr h => ?_)) T.cl_Town T.me_Town_docks fun _ _ _ _ _ _ us hl => match us, hl with | [_, _], _ => rfl
  · obtain ⟨x, z, ss, rs, sa, ra, rfl, _⟩ := h
    rfl
  · obtain ⟨x, z, ss, rs, sa, ra, rfl, t, h⟩ := h
    obtain ⟨dx, sd, pd, st, rd, kvs, pvs, hx, _⟩ := t.ex
    refine ⟨_, pss_one (ps_ret (pe_ix (ix_tupK (K := K)) (pe_metS M__station (takes_of rfl rfl rfl rfl) hr (by decide) (pv 0) (pa_cons (pv 1) (pa_nil))) (pe_int) (fun _ _ => rfl))), ?_⟩
    refine ⟨_, rfl, x, dx, _, rfl, hx, rfl, _, rfl, x, z, ss, rs, sa, ra, rfl, t, ?_⟩
    rcases h with ⟨s0, hm, rfl, q⟩ | ⟨hn, q⟩
    · exact .inl ⟨s0, hm, rfl, fun a ha => ⟨a, _, 1, _, rfl, rfl, SqT.of ha, atI_nat (j := 1) rfl, q⟩⟩
    · exact .inr ⟨hn, fun d hd => q d hd⟩
theorem me_bikes (T : Txt K mg) : Met P w K mg base 4 (ga K "Town") "bikes" (spStnV K fun s => .int s.bikes) := by
  have M__station := me_station (P := P) (w := w) (base := base) T
  obtain ⟨fd, F⟩ := T.d_Town_bikes
  refine met_of F (fn_okX F sc_Town_bikes (fun vs H Q E h => ?_) (fun cdv A outer s H vs Q E hr h => ?_)) T.cl_Town T.me_Town_bikes fun _ _ _ _ _ _ us hl => match us, hl with | [_, _], _ => rfl
  · obtain ⟨x, z, ss, rs, sa, ra, rfl, _⟩ := h
    rfl
  · obtain ⟨x, z, ss, rs, sa, ra, rfl, t, h⟩ := h
    obtain ⟨dx, sd, pd, st, rd, kvs, pvs, hx, _⟩ := t.ex
    refine ⟨_, pss_one (ps_ret (pe_ix (ix_tupK (K := K)) (pe_metS M__station (takes_of rfl rfl rfl rfl) hr (by decide) (pv 0) (pa_cons (pv 1) (pa_nil))) (pe_int) (fun _ _ => rfl))), ?_⟩
    refine ⟨_, rfl, x, dx, _, rfl, hx, rfl, _, rfl, x, z, ss, rs, sa, ra, rfl, t, ?_⟩
    rcases h with ⟨s0, hm, rfl, q⟩ | ⟨hn, q⟩
    · exact .inl ⟨s0, hm, rfl, fun a ha => ⟨a, _, 2, _, rfl, rfl, SqT.of ha, atI_nat (j := 2) rfl, q⟩⟩
    · exact .inr ⟨hn, fun d hd => q d hd⟩
theorem me_free (T : Txt K mg) : Met P w K mg base 5 (ga K "Town") "free" (spStnV K fun s => .int (s.docks - s.bikes)) := by
  have M_docks := me_docks (P := P) (w := w) (base := base) T
  have M_bikes := me_bikes (P := P) (w := w) (base := base) T
  obtain ⟨fd, F⟩ := T.d_Town_free
  refine met_of F (fn_okX F sc_Town_free (fun vs H Q E h => ?_) (fun cdv A outer s H vs Q E hr h => ?_)) T.cl_Town T.me_Town_free fun _ _ _ _ _ _ us hl => match us, hl with | [_, _], _ => rfl
  · obtain ⟨x, z, ss, rs, sa, ra, rfl, _⟩ := h
    rfl
  · obtain ⟨x, z, ss, rs, sa, ra, rfl, t, h⟩ := h
    obtain ⟨dx, sd, pd, st, rd, kvs, pvs, hx, _⟩ := t.ex
    refine ⟨_, pss_one (ps_ret (pe_op op_sub (pe_metS M_docks (takes_of rfl rfl rfl rfl) hr (by decide) (pv 0) (pa_cons (pv 1) (pa_nil))) (pe_metS M_bikes (takes_of rfl rfl rfl rfl) hr (by decide) (pv 0) (pa_cons (pv 1) (pa_nil))))), ?_⟩
    refine ⟨_, rfl, x, dx, _, rfl, hx, rfl, _, rfl, x, z, ss, rs, sa, ra, rfl, t, ?_⟩
    rcases h with ⟨s0, hm, rfl, q⟩ | ⟨hn, q⟩
    · exact .inl ⟨s0, hm, rfl, _, rfl, x, dx, _, rfl, hx, rfl, _, rfl, x, s0.name, ss, rs, sa, ra, rfl, t, .inl ⟨s0, hm, rfl, _, _, rfl, rfl, q⟩⟩
    · exact .inr ⟨hn, fun d hd => q d hd⟩
theorem me_position (T : Txt K mg) : Met P w K mg base 3 (ga K "Town") "position" (spRideV K fun j _ => .int (j : Int)) := by
  have X_UnknownRide := xmk_ride (P := P) (w := w) (base := base) T
  obtain ⟨fd, F⟩ := T.d_Town_position
  refine met_of F (fn_okX F sc_Town_position (fun vs H Q E h => ?_) (fun cdv A outer s H vs Q E hr h => ?_)) T.cl_Town T.me_Town_position fun _ _ _ _ _ _ us hl => match us, hl with | [_, _], _ => rfl
  · obtain ⟨x, z, ss, rs, sa, ra, rfl, _⟩ := h
    rfl
  · obtain ⟨x, z, ss, rs, sa, ra, rfl, t, h⟩ := h
    have hu := hu_of hr
    obtain ⟨dx, sd, pd, st, rd, kvs, pvs, hx, hs, hp, hst, hrt, six, pix⟩ := t.ex
    refine ⟨_, pss_cons (ps_if (pt_cmp (pc_dnotin hu (pv 1) (pe_fldK (K := K) (pv 0) rfl)))
      (pss_one (ps_raise rfl (takes_of rfl rfl rfl rfl) (pmk_x X_UnknownRide (mono_var (mono_nil)) hr (by decide) rfl (pa_cons (pv 1) (pa_nil)))))
      (pss_nil))
      (pss_one (ps_ret (pe_dget hu (pe_fldK (K := K) (pv 0) rfl) (pv 1) (fun _ _ => rfl)))), ?_⟩
    refine ⟨_, rfl, _, rfl, x, _, dx, _, .ref pd, rfl, hx, T.cl_Town, T.na_Town__positions, rfl, pd, _, rfl, DGet.k (k := Sum.inr z) hp, _, rfl, ?_⟩
    rcases h with ⟨j, r, a, h1, h2, rfl, q⟩ | ⟨hn, q⟩
    · have hv := pix.at_ j r h1
      have hg : DGet H pd (.str r.name) (some (.int (j : Int))) := by
        have := DGet.k (k := Sum.inr r.name) hp
        rw [hv] at this
        exact this
      rw [hv]
      exact iteF ⟨_, rfl, x, _, dx, _, .ref pd, rfl, hx, T.cl_Town, T.na_Town__positions, rfl, _, rfl, pd, .int j, rfl, hg, q⟩
    · rw [pix.no z hn]
      exact iteT ⟨_, rfl, _, rfl, fun d hd => q d hd⟩
theorem me_ride (T : Txt K mg) : Met P w K mg base 4 (ga K "Town") "ride" (spRideV K fun _ a => .ref a) := by
  have M_position := me_position (P := P) (w := w) (base := base) T
  obtain ⟨fd, F⟩ := T.d_Town_ride
  refine met_of F (fn_okX F sc_Town_ride (fun vs H Q E h => ?_) (fun cdv A outer s H vs Q E hr h => ?_)) T.cl_Town T.me_Town_ride fun _ _ _ _ _ _ us hl => match us, hl with | [_, _], _ => rfl
  · obtain ⟨x, z, ss, rs, sa, ra, rfl, _⟩ := h
    rfl
  · obtain ⟨x, z, ss, rs, sa, ra, rfl, t, h⟩ := h
    obtain ⟨dx, sd, pd, st, rd, kvs, pvs, hx, hs, hp, hst, hrt, six, pix⟩ := t.ex
    refine ⟨_, pss_one (ps_ret (pe_ix (ix_tupK (K := K)) (pe_fldK (K := K) (pv 0) rfl) (pe_metS M_position (takes_of rfl rfl rfl rfl) hr (by decide) (pv 0) (pa_cons (pv 1) (pa_nil))) (fun _ _ => rfl))), ?_⟩
    refine ⟨_, rfl, x, _, dx, _, .ref rd, rfl, hx, T.cl_Town, T.na_Town_rides, rfl, _, rfl, x, dx, _, rfl, hx, rfl, _, rfl, x, z, ss, rs, sa, ra, rfl, t, ?_⟩
    rcases h with ⟨j, r, a, h1, h2, rfl, q⟩ | ⟨hn, q⟩
    · exact .inl ⟨j, r, a, h1, h2, rfl, rd, _, _, .ref a, rfl, rfl, SqT.of hrt, atI_nat (by rw [List.getElem?_map, h2]; rfl), q⟩
    · exact .inr ⟨hn, fun d hd => q d hd⟩
theorem me_passes (T : Txt K mg) : Met P w K mg base 1 (ga K "Town") "passes" (spPasses K) := by
  obtain ⟨fd, F⟩ := T.d_Town_passes
  refine met_of F (fn_ok0 F sc_Town_passes (fun vs H Q E h => ?_) (fun cdv A outer s H vs Q E hr h => ?_)) T.cl_Town T.me_Town_passes fun _ _ _ _ _ _ us hl => match us, hl with | [_], _ => rfl
  · obtain ⟨x, ss, rs, sa, ra, rfl, _⟩ := h
    rfl
  · obtain ⟨x, ss, rs, sa, ra, rfl, t, q⟩ := h
    obtain ⟨dx, sd, pd, st, rd, kvs, pvs, hx, hs, hp, hst, hrt, six, pix⟩ := t.ex
    have hral : ra.length = rs.length := by rw [paired_len t.rt, List.length_map]
    have okr := t.ok.rl
    refine ⟨_, pss_one (ps_ret (pe_callB (cr_sumK (K := K) rfl) (by rfl) T.n_sum T.b_sum (pa_cons (pe_lc (own := [("_", 1), ("start", 2), ("goal", 3), ("kept", 4)]) rfl sc_Town_passes.nd (pi_tupK (K := K) (pe_fldK (K := K) (pv 0) rfl)) (blkOk_by (N := N_Town_passes) (sc := defScope s_Town_passes) (by decide +kernel)) (fun _ _ _ _ _ => pg_tupK (K := K) (n := 4) rfl (pgs_cons (pg_name (i := 1) sc_Town_passes.nd rfl (Or.inl rfl)) (pgs_cons (pg_name (i := 2) sc_Town_passes.nd rfl (Or.inl rfl)) (pgs_cons (pg_name (i := 3) sc_Town_passes.nd rfl (Or.inl rfl)) (pgs_cons (pg_name (i := 4) sc_Town_passes.nd rfl (Or.inl rfl)) (pgs_nil)))))) (fun _ _ _ _ _ => pts_nil) (fun _ _ _ _ _ => pe_ifExp (pt_val (pv 4)) (pe_int) (pe_int))) (pa_nil)))), ?_⟩
    refine s_retP (EvP.of (ev_sum (pas rs) (EvP.imp (ev_lcV (fun _ => true) (fun i => (rs[i]?.map fun r => V.int (if r.kept then 1 else 2)).getD .non) (src_tup (a := rd) (xs := ra.map V.ref) (fun H1 e1 Q k => ⟨_, rfl, x, _, dx, _, .ref rd, rfl, e1 _ _ hx, T.cl_Town, T.na_Town_rides, rfl, k _ (Evl.Ex.refl _)⟩) (SqT.of hrt)) (by rw [List.length_map]; omega) (fun i y H1 e hi hy => ?_)) fun v H1 e1 ⟨D, h1, h2, h3⟩ => ⟨D, h1, h2, ?_⟩))) fun v H1 e1 hv => ?_
    · rw [List.length_map] at hi
      have hgr : rs[i]? = some (rs[i]'(by omega)) := List.getElem?_eq_getElem (by omega)
      obtain ⟨a, hga, ha⟩ := t.rt.get (i := i) (r := rdV (rs[i]'(by omega))) (by rw [List.getElem?_map, hgr]; rfl)
      rw [List.getElem?_map, hga] at hy
      cases hy
      generalize rs[i]'(by omega) = r at hgr ha
      refine ⟨_, fun H2 e2 Q k => ⟨a, _, rfl, SqT.of (e2 _ _ (e _ _ ha)), rfl, _, _, rfl, _, _, rfl, _, _, rfl, _, _, rfl, rfl, k _ (Evl.Ex.refl _)⟩, rfl, et_yes, fun _ H2 e2 Q k => ⟨_, rfl, r.kept, rfl, ?_⟩⟩
      rw [hgr] at k
      refine ite2 (fun c => ?_) (fun c => ?_)
      · have := k _ (Evl.Ex.refl _)
        rw [Option.map_some, if_pos c] at this
        exact this
      · have := k _ (Evl.Ex.refl _)
        rw [Option.map_some, if_neg c] at this
        exact this
    · rw [h3, idx_all, List.length_map, hral, rg_map]
      unfold pas
      rw [List.map_map]
      rfl
    · subst hv
      exact q H1 e1
end
end Rk

namespace Rk
open PySem PySem.Spec PyProof.Rows L2 He Rb C8 SX
/-! ### a classmethod without arguments; the class that a local name holds -/
theorem pe_cmeth0 {X : Cx} {CX : CXT} {k : Nat} {C p g : Addr} {mc : Value} {sp : Sp} {E : XK} {o : Expr} {m : Str} {pos apos : Pos} {ta : TE} {pl : Sem Bool} (he : PE X o ta) (r : ClX.CRead X.K C mc) (c : ClX.CMet X.K C mc m p g) (F : FnR X.prog X.w X.K X.mg X.base CX k g sp) (hr : Room k X.A) (hx : Passes CX X E)
    (ht : eval (.Call (.Attribute o m apos) [] [] pos) X.env = (do
      let ov ← eval o X.env
      standAt apos.atName
      let (f, first) ← holding [ov] (getMethod ov m pl)
      callWith pos f first (backTo pos (starEach [] X.env)) (backToKw pos (keywordEach [] X.env))) := by rfl) :
    PE X (.Call (.Attribute o m apos) [] [] pos) (ClX.tCMeth C sp E ta tNil) := by
  refine ⟨fun pins s σ H Q I h => ?_⟩
  refine PySem.W.methodCall_KW (pl := pl) (thn (he.run pins s σ H _ I h) fun u s1 ⟨x, H1, I1, rx, ex, q⟩ => ?_) ht
  subst ex
  obtain rfl : u = Value.ref C := rx
  refine ClX.getmethcm_ok I1 r c fun s2 I2 => ?_
  exact PySem.W.callWith_M0 (first := []) ⟨ClX.pin_at I2, I2.kIn⟩ c.fi (ClX.run_cm F hr hx I2 .nil q)
def tMakeL (i : Nat) (C : Addr) (sp : Sp) (t : TA) : TE := fun σ H Q => σ[i]? = some (some (.ref C)) ∧ tMake C sp [] L2.E0 t σ H Q
theorem pe_mkL {X : Cx} {k j i : Nat} {C : Addr} {sp : Sp} {x y : Str} {p pos : Pos} {e : Expr} {es : List Expr} {t : TA} (c : MakX X.prog X.w X.K X.mg X.base k y C sp) (hr : Room j X.A) (hk : k + 1 ≤ j) (hN : X.N[i]? = some x) (hv : Vis X.env.scope x) (ha : PA X (e :: es) t)
    (hdb : (x == ("__debug__" : Str)) = false := by decide) (hcd : (x == ("__classdict__" : Str)) = false := by decide) (he : starEach (e :: es) X.env = (false, eval e X.env) :: starEach es X.env := by rfl) (hpl : (backTo pos (starEach es X.env)).any (·.1) = false := by rfl) :
    PE X (.Call (.Name x p) (e :: es) [] pos) (tMakeL i C sp t) := by
  obtain ⟨f, fd, ps, M, F, hm, b⟩ := c.ex
  refine ⟨fun pins s σ H Q I h => ?_⟩
  obtain ⟨hs, ht⟩ := h
  refine wpAny_Call_Name_kw (thn ((pe_var (pos := p) hN hv hdb hcd).run pins s σ H (fun v H1 => v = .ref C ∧ H1 = H) I ⟨.ref C, hs, rfl, rfl⟩) fun u s1 ⟨v, H1, I1, r1, q1⟩ => ?_)
  obtain ⟨rfl, rfl⟩ := q1
  cases r1
  refine PySem.W.callWith_K (h₀ := X.base) I.ok.mod.kin M.kp (thn (ha.run pos pins s1 σ _ _ I1 ht) fun us s2 ⟨vs, H2, I2, r, q⟩ => ⟨I2.kIn, ?_⟩) he hpl
  exact run_make M F (hr.mono hk) b .nil passL I2 r q
def spEmpty (K : PySem.W.Frag) : Sp := fun vs H Q _ => vs = [.ref (ga K "Town")] ∧ ∀ (x : Addr) (H' : Hp), TownF K H' x [] [] [] [] → Ex H H' → Q (.ref x) H'
theorem ex_make {H H' : Hp} {x dx C : Addr} (hx : H x = none) (hd : H dx = none) (hne : dx ≠ x) (f : Fr x (upd (upd H dx (.own x)) x (.ins C dx [])) H') : Ex H H' := fun b o h => f b o (fun e => by rw [e, hx] at h; cases h) (by
  rw [upd_ne (fun e => by rw [e, hx] at h; cases h), upd_ne (fun e => by rw [e, hd] at h; cases h)]
  exact h)
theorem townOk_nil : TownOk [] [] := ⟨by simp, by simp, by simp, (fun x h => by cases h), by simp, (fun x h => by cases h), (fun x h => by cases h), (fun x h => by cases h)⟩
abbrev N_Town_empty : List Str := ["cls"]
theorem sc_Town_empty : FnScope N_Town_empty ["cls"] (defScope s_Town_empty) := ⟨rfl, rfl, rfl, by decide +kernel, rfl, by decide +kernel, by decide +kernel⟩
section
variable {P : Program} {w : World} {K : PySem.W.Frag} {mg : Str → Option Value} {base : Heap}
theorem cm_empty (T : Txt K mg) : FnR P w K mg base (L2.CX P w) 6 (He5.wf K (ga K "Town") "classmethod" "empty") (spEmpty K) := by
  have MK_Town := mk_town (P := P) (w := w) (base := base) T
  obtain ⟨fd, F⟩ := T.d_Town_empty
  have G : FnOk P w K mg base (L2.CX P w) 6 _ fd _ (spEmpty K) := fn_ok0 F sc_Town_empty (fun vs H Q E h => by rw [h.1]; rfl) (fun cdv A outer s H vs Q E hr h => by
    obtain ⟨rfl, q⟩ := h
    refine ⟨_, pss_one (ps_ret (pe_mkL (i := 0) MK_Town hr (by decide) rfl (Or.inl rfl) (pa_cons (pe_lst pa_nil) (pa_cons (pe_lst pa_nil) pa_nil)))), ?_⟩
    refine ⟨rfl, by rw [sizeLine_eq]; decide, fun l1 n1 => ⟨by rw [sizeLine_eq]; decide, fun l2 n2 => ?_⟩⟩
    intro x dx hx hd hne
    have e12 : Ex H (upd (upd H l1 (.lst [])) l2 (.lst [])) := (Evl.Ex.new n1).trans (Evl.Ex.new n2)
    have h1 : upd (upd H l1 (.lst [])) l2 (.lst []) l1 = some (.lst []) := Evl.Ex.new n2 _ _ upd_same
    have h2 : upd (upd H l1 (.lst [])) l2 (.lst []) l2 = some (.lst []) := upd_same
    generalize upd (upd H l1 (.lst [])) l2 (.lst []) = H2 at e12 h1 h2 hx hd
    have keep : ∀ b, H2 b = some (.lst []) → (upd (upd H2 dx (.own x)) x (.ins (ga K "Town") dx [])) b = some (.lst []) := fun b h => by
      rw [upd_ne (fun e => by rw [e, hx] at h; cases h), upd_ne (fun e => by rw [e, hd] at h; cases h)]
      exact h
    exact ⟨x, dx, l1, l2, [], [], [], [], rfl, upd_same, SqL.of (keep _ h1), .nil, SqL.of (keep _ h2), .nil, townOk_nil, fun H' t f => ⟨rfl, q x H' t (e12.trans (ex_make hx hd hne f))⟩⟩)
  exact (G.raw (F.bindsN fun _ _ _ _ _ _ us hl => match us, hl with | [_], _ => rfl) .nil).imp fun vs H Q E h => by rw [List.append_nil]; exact h
end
end Rk

namespace Rk
open PySem PySem.Spec PyProof.Rows L2 He Rb C8 SX
theorem xf_of {K : PySem.W.Frag} {C : Addr} (h : ExcC K C) : XfC K C := ⟨h.hg, h.hk, h.hs, h.hd⟩
theorem q_c {v : V} {i : Nat} {rest : TS} {D : Ends} {σ : L2.St} {H : Hp} (h : rest D (σ.set i (some v)) H) : tSeq (tAsg (tC v) (gName i)) rest D σ H := h
theorem TupsAt.memr {H : Hp} : ∀ {as : List Addr} {rows : List (List V)} {a : Addr}, TupsAt H as rows → a ∈ as → ∃ r, r ∈ rows ∧ H a = some (.tup r)
  | _ :: _, _ :: _, _, .cons h t, m => by
    rcases List.mem_cons.mp m with e | e
    · exact ⟨_, List.mem_cons_self, by rw [e]; exact h⟩
    · obtain ⟨r, h1, h2⟩ := TupsAt.memr t e
      exact ⟨r, List.mem_cons_of_mem _ h1, h2⟩
def isAt (H : Hp) (z : Str) (a : Addr) : Bool := match H a with
  | some (.tup (.str n :: _)) => decide (n = z)
  | _ => false
theorem isAt_st {H : Hp} {z : Str} {a : Addr} {n : Str} {r : List V} (h : H a = some (.tup (.str n :: r))) : isAt H z a = decide (n = z) := by
  unfold isAt
  rw [h]
theorem dec_str (a b : Str) : decide (V.str a = V.str b) = decide (a = b) := by
  by_cases h : a = b
  · subst h; simp
  · simp [h]
theorem exH_ex {H : Hp} {d : Addr} {z : Str} (h : H d = none) : Ex H (exH H d z) := Evl.Ex.new h
def spStationIs (K : PySem.W.Frag) : Sp := fun vs H Q _ => ∃ (x sl : Addr) (z : Str) (ss : List Stn) (rs : List Rd) (sa ra : List Addr), vs = [.ref x, .str z, .ref sl] ∧ TownF K H x ss rs sa ra ∧ SqL K H sl (sa.map V.ref) ∧ ∀ H', Ex H H' → Q (.bl true) H'
abbrev N__law_station_is : List Str := ["town", "name", "stations", "rows", "k", "told", "lost", "e", "row"]
theorem sc__law_station_is : FnScope N__law_station_is ["town", "name", "stations"] (defScope s__law_station_is) := ⟨rfl, rfl, rfl, by decide +kernel, rfl, by decide +kernel, by decide +kernel⟩
section
variable {P : Program} {w : World} {K : PySem.W.Frag} {mg : Str → Option Value} {base : Heap}
theorem ok_station_is (T : Txt K mg) : Cal P w K mg base 6 "_law_station_is" (spStationIs K) := by
  have M_docks := me_docks (P := P) (w := w) (base := base) T
  have M_bikes := me_bikes (P := P) (w := w) (base := base) T
  have M_free := me_free (P := P) (w := w) (base := base) T
  have C__law_same := ok_same (P := P) (w := w) (base := base) T 2
  obtain ⟨fd, F⟩ := T.d__law_station_is
  refine cal_of F (fn_ok0 F sc__law_station_is (fun vs H Q E h => ?_) (fun cdv A outer s H vs Q E hr h => ?_)) T.m__law_station_is fun _ _ _ _ _ _ us hl => match us, hl with | [_, _, _], _ => rfl
  · obtain ⟨x, sl, z, ss, rs, sa, ra, rfl, _⟩ := h
    rfl
  · obtain ⟨x, sl, z, ss, rs, sa, ra, rfl, t, hS, q⟩ := h
    refine ⟨_, pss_cons (ps_setLc (i := 3) (own := [("row", 8)]) rfl sc__law_station_is.nd rfl rfl (sw_true rfl rfl rfl (by decide +kernel)) (pi_listK (K := K) (pv 2)) (blkOk_by (N := N__law_station_is) (sc := defScope s__law_station_is) (by decide +kernel)) (fun _ _ _ _ _ => pg_name (i := 8) sc__law_station_is.nd rfl (Or.inl rfl)) (fun _ _ _ _ _ => pts_one (pt_cmpR op_eq (pe_ix (ix_tupK (K := K)) (pv 8) (pe_int) (fun _ _ => rfl)) (pv 1) (nomark _))) (fun _ _ _ _ _ => pv 8))
      (pss_cons (ps_for PassesOwn.never rfl (pi_range1 rfl T.n_range (pa_cons (pe_int) (pa_nil))) (pg_name (i := 4) sc__law_station_is.nd rfl (Or.inl rfl))
      (pss_cons (ps_set (i := 5) sc__law_station_is.nd rfl (Or.inl rfl) (pe_non))
      (pss_cons (ps_set (i := 6) sc__law_station_is.nd rfl (Or.inl rfl) (pe_non))
      (pss_cons (ps_try_as (i := 7) (Wout := fun _ _ _ _ => False) rfl rfl sc__law_station_is.nd rfl rfl ⟨rfl, by decide, Or.inl T.m_UnknownStation⟩ takes0
      (fun W pn xe tk po => pss_one (ps_if (pt_cmpR op_eq (pv 4) (pe_int) (nomark _))
      (pss_one (ps_set (i := 5) sc__law_station_is.nd rfl (Or.inl rfl) (pe_metS M_docks tk hr (by decide) (pv 0) (pa_cons (pv 1) (pa_nil)))))
      (pss_one (ps_if (pt_cmpR op_eq (pv 4) (pe_int) (nomark _))
      (pss_one (ps_set (i := 5) sc__law_station_is.nd rfl (Or.inl rfl) (pe_metS M_bikes tk hr (by decide) (pv 0) (pa_cons (pv 1) (pa_nil)))))
      (pss_one (ps_set (i := 5) sc__law_station_is.nd rfl (Or.inl rfl) (pe_metS M_free tk hr (by decide) (pv 0) (pa_cons (pv 1) (pa_nil)))))))))
      (fun a oe cls d pn hz hf => pss_one (ps_set (i := 6) sc__law_station_is.nd rfl (Or.inl rfl) (pe_lst (pa_cons (pe_xf (xf_of T.ec_UnknownStation) T.na_UnknownStation_name hz hf (pv 7)) (pa_cons (pe_callB (call_isX hz hf) (by rfl) T.n_isinstance T.b_isinstance (pa_cons (pv 7) (pa_cons (pe_glob (v := .ref (ga K "RidesError")) rfl T.m_RidesError rfl) (pa_nil)))) (pa_cons (pe_callB (call_isX hz hf) (by rfl) T.n_isinstance T.b_isinstance (pa_cons (pv 7) (pa_cons (pe_glob (v := .ref (ga K "UnknownRide")) rfl T.m_UnknownRide rfl) (pa_nil)))) (pa_nil))))))))
      (pss_one (ps_if (pt_cmpR op_eq (pe_callB (call_lenK (K := K)) (by rfl) T.n_len T.b_len (pa_cons (pv 3) (pa_nil))) (pe_int) (nomark _))
      (pss_one (ps_if (pt_not (pt_val (pe_cal C__law_same hr (by decide) rfl (pa_cons (pv 6) (pa_cons (pe_lst (pa_cons (pv 1) (pa_cons (pe_bl) (pa_cons (pe_bl) (pa_nil))))) (pa_nil))))))
      (pss_one (ps_ret (pe_bl)))
      (pss_nil)))
      (pss_one (ps_if (PW.pt (pw_or (pt_cmpR op_notN (pv 6) (pe_non) (nomark _)) (pw_or1 (pt_not (pt_val (pe_cal C__law_same hr (by decide) rfl (pa_cons (pv 5) (pa_cons (pe_ix (ix_listK (K := K)) (pe_lst (pa_cons (pe_ix (ix_tupK (K := K)) (pe_ix (ix_listK (K := K)) (pv 3) (pe_int) (fun _ _ => rfl)) (pe_int) (fun _ _ => rfl)) (pa_cons (pe_ix (ix_tupK (K := K)) (pe_ix (ix_listK (K := K)) (pv 3) (pe_int) (fun _ _ => rfl)) (pe_int) (fun _ _ => rfl)) (pa_cons (pe_op op_sub (pe_ix (ix_tupK (K := K)) (pe_ix (ix_listK (K := K)) (pv 3) (pe_int) (fun _ _ => rfl)) (pe_int) (fun _ _ => rfl)) (pe_ix (ix_tupK (K := K)) (pe_ix (ix_listK (K := K)) (pv 3) (pe_int) (fun _ _ => rfl)) (pe_int) (fun _ _ => rfl))) (pa_nil))))) (pv 4) (fun _ _ => rfl)) (pa_nil)))))))))
      (pss_one (ps_ret (pe_bl)))
      (pss_nil)))))))))
      (pss_one (ps_ret (pe_bl)))), ?_⟩
    have hsl : sa.length = ss.length := by rw [paired_len t.st, List.length_map]
    have okl := t.ok.sl
    refine q_asgP (ev_lcL (p := isAt H z) (g := V.ref) sa V.ref (Evl.ev_var rfl) hS (by omega) (fun x => rfl) (fun a ha H2 e2 H3 e3 Q2 k => ?_) fun x hx hp H2 e2 => Evl.ev_var rfl) fun v H1 e1 ⟨D, hv, hD, hH1⟩ => ?_
    · obtain ⟨r, hr, har⟩ := t.st.memr ha
      obtain ⟨s, hs, rfl⟩ := List.mem_map.mp hr
      have k := k H3 (Evl.Ex.refl _)
      rw [isAt_st (r := [.int s.docks, .int s.bikes]) har, ← dec_str] at k
      exact ⟨_, rfl, a, _, 0, .str s.name, rfl, rfl, SqT.of (e3 _ _ (e2 _ _ har)), atI_nat (j := 0) rfl, _, rfl, rfl, _, rfl, k⟩
    · subst hv
      have hfl : (sa.filter (isAt H z) = [] ∧ z ∉ ss.map Stn.name) ∨ ∃ b rest s, sa.filter (isAt H z) = b :: rest ∧ s ∈ ss ∧ s.name = z ∧ H b = some (.tup (stV s)) := by
        by_cases hz : z ∈ ss.map Stn.name
        · right
          obtain ⟨s0, hs0, hz0⟩ := List.mem_map.mp hz
          obtain ⟨j, hj, e⟩ := List.mem_iff_getElem.mp hs0
          obtain ⟨a, h2, ha⟩ := t.st.get (i := j) (r := stV s0) (by rw [List.getElem?_map, List.getElem?_eq_getElem hj, e]; rfl)
          have hm : a ∈ sa.filter (isAt H z) := List.mem_filter.mpr ⟨List.mem_of_getElem? h2, by rw [isAt_st (r := [.int s0.docks, .int s0.bikes]) ha]; exact decide_eq_true hz0⟩
          cases hf : sa.filter (isAt H z) with
          | nil => rw [hf] at hm; cases hm
          | cons b rest =>
            have hb : b ∈ sa.filter (isAt H z) := by rw [hf]; exact List.mem_cons_self
            obtain ⟨hb1, hb2⟩ := List.mem_filter.mp hb
            obtain ⟨r, hr, hbr⟩ := t.st.memr hb1
            obtain ⟨s, hs, rfl⟩ := List.mem_map.mp hr
            rw [isAt_st (r := [.int s.docks, .int s.bikes]) hbr] at hb2
            exact ⟨b, rest, s, rfl, hs, of_decide_eq_true hb2, hbr⟩
        · left
          refine ⟨List.filter_eq_nil_iff.mpr fun a ha h => ?_, hz⟩
          obtain ⟨r, hr, har⟩ := t.st.memr ha
          obtain ⟨s, hs, rfl⟩ := List.mem_map.mp hr
          rw [isAt_st (r := [.int s.docks, .int s.bikes]) har] at h
          exact hz (List.mem_map.mpr ⟨s, hs, of_decide_eq_true h⟩)
      refine ⟨3, rfl, by omega, by omega, for_range (lo := 0) (n := ((3 : Nat) : Int).toNat) (fun i σ H' => Ex H1 H' ∧ ∃ v4 v5 v6 v7 v8, σ = [some (.ref x), some (.str z), some (.ref sl), some (.ref D), v4, v5, v6, v7, v8]) ⟨Evl.Ex.refl _, _, _, _, _, _, rfl⟩ ?_ ?_⟩
      · rintro i σ H2 hi ⟨e2, v4, v5, v6, v7, v8, rfl⟩
        have hi : i < 3 := hi
        refine q_c (q_c ?_)
        have t2 : TownF K H2 x ss rs sa ra := t.keep (NL.ex (e1.trans e2))
        obtain ⟨dx, sd, pd, st, rd, kvs, pvs, hx, _⟩ := t2.ex
        have hD2 := e2 _ _ hH1
        rcases hfl with ⟨hf, hz⟩ | ⟨b, rest, s, hf, hs, rfl, hb⟩
        · rw [hf] at hD2
          refine cutS (fun σ H' => Ex H2 H' ∧ ∃ ll v7, H' ll = some (.lst [.str z, .bl true, .bl false]) ∧ σ = [some (.ref x), some (.str z), some (.ref sl), some (.ref D), some (.int (0 + (i : Int))), some .non, some (.ref ll), v7, v8]) (fun σ H3 h3 => ?_) (fun nx h => ?_)
          · obtain ⟨e3, ll, v7, hll, rfl⟩ := h3
            refine ⟨_, rfl, _, 0, rfl, .inl ⟨_, SqL.of (e3 _ _ hD2), rfl⟩, rfl, _, rfl, iteT ?_⟩
            refine ⟨_, rfl, _, rfl, by rw [sizeLine_eq]; exact (by decide : 3 ≤ 16777216), fun l2 nl2 => ?_⟩
            refine ⟨.ref ll, .ref l2, rfl, .inr (.inr ⟨ll, l2, _, _, rfl, rfl, SqL.of (Evl.Ex.new nl2 _ _ hll), SqL.of upd_same, (by decide : 3 ≤ 1000), .cons (.inl (.str _)) (.cons (.inl (.bl _)) (.cons (.inl (.bl _)) .nil))⟩), fun H4 e4 => ⟨_, rfl, iteF ?_⟩⟩
            exact ⟨((e2.trans e3).trans (Evl.Ex.new nl2)).trans e4, _, _, _, _, _, rfl⟩
          · refine ⟨_, rfl, rfl, _, rfl, ?_⟩
            refine ite2 (fun c => ?_) (fun c => ⟨_, rfl, rfl, _, rfl, ite2 (fun c => ?_) (fun c => ?_)⟩)
            all_goals
              refine ⟨_, rfl, x, dx, _, rfl, hx, rfl, _, rfl, x, z, ss, rs, sa, ra, rfl, t2, .inr ⟨hz, fun d hd => ⟨true, T.xm_UnknownStation_UnknownStation, fun _ a ha => ?_, fun h => by cases h⟩⟩⟩
              refine ⟨_, rfl, rfl, rfl, d, _, .str z, rfl, upd_same, rfl, ?_⟩
              refine ⟨_, rfl, .ref (ga K "RidesError"), ga K "UnknownStation", .ref (ga K "RidesError"), true, d, _, rfl, rfl, rfl, upd_same, T.ec_UnknownStation, fun _ r => r, T.kt_UnknownStation_RidesError, ?_⟩
              refine ⟨_, rfl, .ref (ga K "UnknownRide"), ga K "UnknownStation", .ref (ga K "UnknownRide"), false, d, _, rfl, rfl, rfl, upd_same, T.ec_UnknownStation, fun _ r => r, T.kt_UnknownStation_UnknownRide, ?_⟩
              refine ⟨by rw [sizeLine_eq]; exact (by decide : 3 ≤ 16777216), fun ll nll => ?_⟩
              exact h _ _ ⟨(exH_ex hd).trans (Evl.Ex.new nll), ll, none, upd_same, rfl⟩
        · rw [hf] at hD2
          have hb2 := (e1.trans e2) _ _ hb
          refine cutS (fun σ H' => Ex H2 H' ∧ ∃ v7, σ = [some (.ref x), some (.str s.name), some (.ref sl), some (.ref D), some (.int (0 + (i : Int))), some (.int (if i = 0 then s.docks else if i = 1 then s.bikes else s.docks - s.bikes)), some .non, v7, v8]) (fun σ H3 h3 => ?_) (fun nx h => ?_)
          · obtain ⟨e3, v7, rfl⟩ := h3
            refine ⟨_, rfl, _, (b :: rest).length, rfl, .inl ⟨_, SqL.of (e3 _ _ hD2), (List.length_map ..).symm⟩, rfl, _, rfl, ?_⟩
            rw [decide_eq_false (fun e => by have := V.int.inj e; simp at this; omega)]
            refine iteF ?_
            refine ⟨_, rfl, rfl, _, rfl, ?_⟩
            refine iteF ?_
            have hl := SqL.of (K := K) (e3 _ _ hD2)
            have h0 : atI ((b :: rest).map V.ref) 0 = some (.ref b) := atI_nat (j := 0) rfl
            have hb3 := SqT.of (K := K) (e3 _ _ hb2)
            refine ⟨_, rfl, _, rfl, D, _, 0, .ref b, rfl, rfl, hl, h0, b, _, 1, _, rfl, rfl, hb3, atI_nat (j := 1) rfl, _, rfl, D, _, 0, .ref b, rfl, rfl, hl, h0, b, _, 2, _, rfl, rfl, hb3, atI_nat (j := 2) rfl, _, rfl, D, _, 0, .ref b, rfl, rfl, hl, h0, b, _, 1, _, rfl, rfl, hb3, atI_nat (j := 1) rfl, _, rfl, D, _, 0, .ref b, rfl, rfl, hl, h0, b, _, 2, _, rfl, rfl, hb3, atI_nat (j := 2) rfl, _, _, rfl, rfl, by rw [sizeLine_eq]; exact (by decide : 3 ≤ 16777216), fun l2 nl2 => ?_⟩
            refine ⟨_, rfl, l2, _, _, .int (if i = 0 then s.docks else if i = 1 then s.bikes else s.docks - s.bikes), rfl, rfl, SqL.of upd_same, ?_, ?_⟩
            · rw [Int.zero_add]
              match i, hi with
              | 0, _ => exact atI_nat (j := 0) rfl
              | 1, _ => exact atI_nat (j := 1) rfl
              | 2, _ => exact atI_nat (j := 2) rfl
            · refine ⟨_, _, rfl, .inl (.int _), fun H4 e4 => ⟨_, rfl, iteF ?_⟩⟩
              exact ⟨((e2.trans e3).trans (Evl.Ex.new nl2)).trans e4, _, _, _, _, _, rfl⟩
          · refine ⟨_, rfl, rfl, _, rfl, ?_⟩
            refine ite2 (fun c => ?_) (fun c => ⟨_, rfl, rfl, _, rfl, ite2 (fun c2 => ?_) (fun c2 => ?_)⟩)
            · have hi0 : i = 0 := by have := V.int.inj (of_decide_eq_true c); omega
              refine ⟨_, rfl, x, dx, _, rfl, hx, rfl, _, rfl, x, s.name, ss, rs, sa, ra, rfl, t2, .inl ⟨s, hs, rfl, h _ _ ⟨Evl.Ex.refl _, v7, ?_⟩⟩⟩
              rw [if_pos hi0]
              rfl
            · have hi0 : i = 1 := by have := V.int.inj (of_decide_eq_true c2); omega
              refine ⟨_, rfl, x, dx, _, rfl, hx, rfl, _, rfl, x, s.name, ss, rs, sa, ra, rfl, t2, .inl ⟨s, hs, rfl, h _ _ ⟨Evl.Ex.refl _, v7, ?_⟩⟩⟩
              rw [if_neg (by omega), if_pos hi0]
              rfl
            · have h0 : i ≠ 0 := fun e => c (by rw [e]; rfl)
              have h1 : i ≠ 1 := fun e => c2 (by rw [e]; rfl)
              refine ⟨_, rfl, x, dx, _, rfl, hx, rfl, _, rfl, x, s.name, ss, rs, sa, ra, rfl, t2, .inl ⟨s, hs, rfl, h _ _ ⟨Evl.Ex.refl _, v7, ?_⟩⟩⟩
              rw [if_neg h0, if_neg h1]
              rfl
      · rintro σ H2 ⟨e2, v4, v5, v6, v7, v8, rfl⟩
        exact q H2 (e1.trans e2)
end
end Rk

namespace Rk
open PySem PySem.Spec PyProof.Rows L2 He Rb C8 SX
theorem same_rd (K : PySem.W.Frag) (H : Hp) (n : Nat) (r : Rd) : Paired (Same K (n + 1) H) (rdV r) (rdV r) := .cons (.inl (.str _)) (.cons (.inl (.str _)) (.cons (.inl (.str _)) (.cons (.inl (.bl _)) .nil)))
theorem same_st (K : PySem.W.Frag) (H : Hp) (n : Nat) (s : Stn) : Paired (Same K (n + 1) H) (stV s) (stV s) := .cons (.inl (.str _)) (.cons (.inl (.int _)) (.cons (.inl (.int _)) .nil))
theorem same_rdT {K : PySem.W.Frag} {H : Hp} {a : Addr} {r : Rd} (n : Nat) (h : H a = some (.tup (rdV r))) : Same K (n + 2) H (.ref a) (.ref a) := .inr (.inl ⟨a, a, _, _, rfl, rfl, SqT.of h, SqT.of h, (by decide : 4 ≤ 1000), same_rd K H n r⟩)
theorem same_stT {K : PySem.W.Frag} {H : Hp} {a : Addr} {s : Stn} (n : Nat) (h : H a = some (.tup (stV s))) : Same K (n + 2) H (.ref a) (.ref a) := .inr (.inl ⟨a, a, _, _, rfl, rfl, SqT.of h, SqT.of h, (by decide : 3 ≤ 1000), same_st K H n s⟩)
def spRideIs (K : PySem.W.Frag) : Sp := fun vs H Q _ => ∃ (x rl : Addr) (z : Str) (ss : List Stn) (rs : List Rd) (sa ra : List Addr), vs = [.ref x, .str z, .ref rl] ∧ TownF K H x ss rs sa ra ∧ SqL K H rl (ra.map V.ref) ∧ ∀ H', Ex H H' → Q (.bl true) H'
abbrev N__law_ride_is : List Str := ["town", "name", "rides", "places", "k", "told", "lost", "e"]
theorem sc__law_ride_is : FnScope N__law_ride_is ["town", "name", "rides"] (defScope s__law_ride_is) := ⟨rfl, rfl, rfl, by decide +kernel, rfl, by decide +kernel, by decide +kernel⟩
section
variable {P : Program} {w : World} {K : PySem.W.Frag} {mg : Str → Option Value} {base : Heap}
theorem ok_ride_is (T : Txt K mg) : Cal P w K mg base 5 "_law_ride_is" (spRideIs K) := by
  have M_ride := me_ride (P := P) (w := w) (base := base) T
  have M_position := me_position (P := P) (w := w) (base := base) T
  have C__law_same := ok_same (P := P) (w := w) (base := base) T 2
  obtain ⟨fd, F⟩ := T.d__law_ride_is
  refine cal_of F (fn_ok0 F sc__law_ride_is (fun vs H Q E h => ?_) (fun cdv A outer s H vs Q E hr h => ?_)) T.m__law_ride_is fun _ _ _ _ _ _ us hl => match us, hl with | [_, _, _], _ => rfl
  · obtain ⟨x, rl, z, ss, rs, sa, ra, rfl, _⟩ := h
    rfl
  · obtain ⟨x, rl, z, ss, rs, sa, ra, rfl, t, hR, q⟩ := h
    refine ⟨_, pss_cons (ps_setLc (i := 3) (own := [("k", 4)]) rfl sc__law_ride_is.nd rfl rfl (sw_true rfl rfl rfl (by decide +kernel)) (pi_range1 rfl T.n_range (pa_cons (pe_callB (call_lenK (K := K)) (by rfl) T.n_len T.b_len (pa_cons (pv 2) (pa_nil))) (pa_nil))) (blkOk_by (N := N__law_ride_is) (sc := defScope s__law_ride_is) (by decide +kernel)) (fun _ _ _ _ _ => pg_name (i := 4) sc__law_ride_is.nd rfl (Or.inl rfl)) (fun _ _ _ _ _ => pts_one (pt_cmpR op_eq (pe_ix (ix_tupK (K := K)) (pe_ix (ix_listK (K := K)) (pv 2) (pv 4) (fun _ _ => rfl)) (pe_int) (fun _ _ => rfl)) (pv 1) (nomark _))) (fun _ _ _ _ _ => pv 4))
      (pss_cons (ps_for PassesOwn.never rfl (pi_range1 rfl T.n_range (pa_cons (pe_int) (pa_nil))) (pg_name (i := 4) sc__law_ride_is.nd rfl (Or.inl rfl))
      (pss_cons (ps_set (i := 5) sc__law_ride_is.nd rfl (Or.inl rfl) (pe_non))
      (pss_cons (ps_set (i := 6) sc__law_ride_is.nd rfl (Or.inl rfl) (pe_non))
      (pss_cons (ps_try_as (i := 7) (Wout := fun _ _ _ _ => False) rfl rfl sc__law_ride_is.nd rfl rfl ⟨rfl, by decide, Or.inl T.m_UnknownRide⟩ takes0
      (fun W pn xe tk po => pss_one (ps_if (pt_cmpR op_eq (pv 4) (pe_int) (nomark _))
      (pss_one (ps_set (i := 5) sc__law_ride_is.nd rfl (Or.inl rfl) (pe_metS M_ride tk hr (by decide) (pv 0) (pa_cons (pv 1) (pa_nil)))))
      (pss_one (ps_set (i := 5) sc__law_ride_is.nd rfl (Or.inl rfl) (pe_metS M_position tk hr (by decide) (pv 0) (pa_cons (pv 1) (pa_nil)))))))
      (fun a oe cls d pn hz hf => pss_one (ps_set (i := 6) sc__law_ride_is.nd rfl (Or.inl rfl) (pe_lst (pa_cons (pe_xf (xf_of T.ec_UnknownRide) T.na_UnknownRide_name hz hf (pv 7)) (pa_cons (pe_callB (call_isX hz hf) (by rfl) T.n_isinstance T.b_isinstance (pa_cons (pv 7) (pa_cons (pe_glob (v := .ref (ga K "RidesError")) rfl T.m_RidesError rfl) (pa_nil)))) (pa_cons (pe_callB (call_isX hz hf) (by rfl) T.n_isinstance T.b_isinstance (pa_cons (pv 7) (pa_cons (pe_glob (v := .ref (ga K "UnknownStation")) rfl T.m_UnknownStation rfl) (pa_nil)))) (pa_nil))))))))
      (pss_one (ps_if (pt_cmpR op_eq (pe_callB (call_lenK (K := K)) (by rfl) T.n_len T.b_len (pa_cons (pv 3) (pa_nil))) (pe_int) (nomark _))
      (pss_one (ps_if (pt_not (pt_val (pe_cal C__law_same hr (by decide) rfl (pa_cons (pv 6) (pa_cons (pe_lst (pa_cons (pv 1) (pa_cons (pe_bl) (pa_cons (pe_bl) (pa_nil))))) (pa_nil))))))
      (pss_one (ps_ret (pe_bl)))
      (pss_nil)))
      (pss_one (ps_if (PW.pt (pw_or (pt_cmpR op_notN (pv 6) (pe_non) (nomark _)) (pw_or1 (pt_not (pt_val (pe_cal C__law_same hr (by decide) rfl (pa_cons (pv 5) (pa_cons (pe_ix (ix_listK (K := K)) (pe_lst (pa_cons (pe_ix (ix_listK (K := K)) (pv 2) (pe_ix (ix_listK (K := K)) (pv 3) (pe_int) (fun _ _ => rfl)) (fun _ _ => rfl)) (pa_cons (pe_ix (ix_listK (K := K)) (pv 3) (pe_int) (fun _ _ => rfl)) (pa_nil)))) (pv 4) (fun _ _ => rfl)) (pa_nil)))))))))
      (pss_one (ps_ret (pe_bl)))
      (pss_nil)))))))))
      (pss_one (ps_ret (pe_bl)))), ?_⟩
    have hrl : ra.length = rs.length := by rw [paired_len t.rt, List.length_map]
    have okl := t.ok.rl
    have row : ∀ i : Nat, i < rs.length → ∃ r a, rs[i]? = some r ∧ ra[i]? = some a ∧ H a = some (.tup (rdV r)) := fun i hi => by
      have h1 : rs[i]? = some rs[i] := List.getElem?_eq_getElem hi
      obtain ⟨a, h2, ha⟩ := t.rt.get (i := i) (r := rdV rs[i]) (by rw [List.getElem?_map, h1]; rfl)
      exact ⟨_, a, h1, h2, ha⟩
    refine q_asgP (ev_lcV (fun i => (rs[i]?.map fun r => decide (r.name = z)).getD false) (fun i => .int (i : Int)) (src_r1 (n := (ra.length : Int)) (Evl.ea_cons (fun H1 e1 Q k => ⟨_, rfl, _, ra.length, rfl, .inl ⟨_, Evl.ex_l e1 hR, (List.length_map ..).symm⟩, k _ (Evl.Ex.refl _)⟩) Evl.ea_nil) (by omega) (by omega)) (by omega) fun i y H1 e hi hy => ⟨_, evg_name, by subst hy; rfl, ?_, fun _ H2 e2 Q2 k => ?_⟩) fun v H1 e1 ⟨D, hv, hD, hH1⟩ => ?_
    · subst hy
      obtain ⟨r, a, h1, h2, ha⟩ := row i (by omega)
      intro H2 e2 Q2 k
      have k := k H2 (Evl.Ex.refl _)
      rw [h1, Option.map_some, Option.getD_some, ← dec_str] at k
      exact ⟨_, rfl, _, rfl, rl, _, (i : Int), .ref a, rfl, rfl, Evl.ex_l (e.trans e2) hR, atI_nat (by rw [List.getElem?_map, h2]; rfl), a, _, 0, .str r.name, rfl, rfl, SqT.of (e2 _ _ (e _ _ ha)), atI_nat (j := 0) rfl, _, rfl, rfl, _, rfl, k⟩
    · subst hy
      exact ⟨_, rfl, k _ (Evl.Ex.refl _)⟩
    · subst hv
      rw [show ((ra.length : Int)).toNat = rs.length by omega] at hH1
      have hfl : (Idx rs.length (fun i => (rs[i]?.map fun r => decide (r.name = z)).getD false) = [] ∧ z ∉ rs.map Rd.name) ∨ ∃ j rest r a, Idx rs.length (fun i => (rs[i]?.map fun r => decide (r.name = z)).getD false) = j :: rest ∧ rs[j]? = some r ∧ ra[j]? = some a ∧ r.name = z ∧ H a = some (.tup (rdV r)) := by
        cases hf : Idx rs.length (fun i => (rs[i]?.map fun r => decide (r.name = z)).getD false) with
        | nil =>
          left
          refine ⟨rfl, fun hz => ?_⟩
          obtain ⟨r0, hr0, hz0⟩ := List.mem_map.mp hz
          obtain ⟨j, hj, e⟩ := List.mem_iff_getElem.mp hr0
          have := List.filter_eq_nil_iff.mp hf j (List.mem_range.mpr hj)
          rw [List.getElem?_eq_getElem hj, e, Option.map_some, Option.getD_some] at this
          exact this (decide_eq_true hz0)
        | cons j rest =>
          right
          have hm : j ∈ Idx rs.length (fun i => (rs[i]?.map fun r => decide (r.name = z)).getD false) := by rw [hf]; exact List.mem_cons_self
          obtain ⟨hm1, hm2⟩ := List.mem_filter.mp hm
          obtain ⟨r, a, h1, h2, ha⟩ := row j (List.mem_range.mp hm1)
          rw [h1, Option.map_some, Option.getD_some] at hm2
          exact ⟨j, rest, r, a, rfl, h1, h2, of_decide_eq_true hm2, ha⟩
      refine ⟨2, rfl, by omega, by omega, for_range (lo := 0) (n := ((2 : Nat) : Int).toNat) (fun i σ H' => Ex H1 H' ∧ ∃ v4 v5 v6 v7, σ = [some (.ref x), some (.str z), some (.ref rl), some (.ref D), v4, v5, v6, v7]) ⟨Evl.Ex.refl _, _, _, _, _, rfl⟩ ?_ ?_⟩
      · rintro i σ H2 hi ⟨e2, v4, v5, v6, v7, rfl⟩
        have hi : i < 2 := hi
        refine q_c (q_c ?_)
        have t2 : TownF K H2 x ss rs sa ra := t.keep (NL.ex (e1.trans e2))
        obtain ⟨dx, sd, pd, st, rd, kvs, pvs, hx, _⟩ := t2.ex
        have hD2 := e2 _ _ hH1
        rcases hfl with ⟨hf, hz⟩ | ⟨j, rest, r, a, hf, hj, hja, rfl, ha⟩
        · rw [hf] at hD2
          refine cutS (fun σ H' => Ex H2 H' ∧ ∃ ll v7, H' ll = some (.lst [.str z, .bl true, .bl false]) ∧ σ = [some (.ref x), some (.str z), some (.ref rl), some (.ref D), some (.int (0 + (i : Int))), some .non, some (.ref ll), v7]) (fun σ H3 h3 => ?_) (fun nx h => ?_)
          · obtain ⟨e3, ll, v7, hll, rfl⟩ := h3
            refine ⟨_, rfl, _, 0, rfl, .inl ⟨_, SqL.of (e3 _ _ hD2), rfl⟩, rfl, _, rfl, iteT ?_⟩
            refine ⟨_, rfl, _, rfl, by rw [sizeLine_eq]; exact (by decide : 3 ≤ 16777216), fun l2 nl2 => ?_⟩
            refine ⟨.ref ll, .ref l2, rfl, .inr (.inr ⟨ll, l2, _, _, rfl, rfl, SqL.of (Evl.Ex.new nl2 _ _ hll), SqL.of upd_same, (by decide : 3 ≤ 1000), .cons (.inl (.str _)) (.cons (.inl (.bl _)) (.cons (.inl (.bl _)) .nil))⟩), fun H4 e4 => ⟨_, rfl, iteF ?_⟩⟩
            exact ⟨((e2.trans e3).trans (Evl.Ex.new nl2)).trans e4, _, _, _, _, rfl⟩
          · refine ⟨_, rfl, rfl, _, rfl, ?_⟩
            refine ite2 (fun c => ?_) (fun c => ?_)
            all_goals
              refine ⟨_, rfl, x, dx, _, rfl, hx, rfl, _, rfl, x, z, ss, rs, sa, ra, rfl, t2, .inr ⟨hz, fun d hd => ⟨true, T.xm_UnknownRide_UnknownRide, fun _ a ha => ?_, fun h => by cases h⟩⟩⟩
              refine ⟨_, rfl, rfl, rfl, d, _, .str z, rfl, upd_same, rfl, ?_⟩
              refine ⟨_, rfl, .ref (ga K "RidesError"), ga K "UnknownRide", .ref (ga K "RidesError"), true, d, _, rfl, rfl, rfl, upd_same, T.ec_UnknownRide, fun _ r => r, T.kt_UnknownRide_RidesError, ?_⟩
              refine ⟨_, rfl, .ref (ga K "UnknownStation"), ga K "UnknownRide", .ref (ga K "UnknownStation"), false, d, _, rfl, rfl, rfl, upd_same, T.ec_UnknownRide, fun _ r => r, T.kt_UnknownRide_UnknownStation, ?_⟩
              refine ⟨by rw [sizeLine_eq]; exact (by decide : 3 ≤ 16777216), fun ll nll => ?_⟩
              exact h _ _ ⟨(exH_ex hd).trans (Evl.Ex.new nll), ll, none, upd_same, rfl⟩
        · rw [hf] at hD2
          have ha2 := (e1.trans e2) _ _ ha
          refine cutS (fun σ H' => Ex H2 H' ∧ ∃ v7, σ = [some (.ref x), some (.str r.name), some (.ref rl), some (.ref D), some (.int (0 + (i : Int))), some (if i = 0 then .ref a else .int (j : Int)), some .non, v7]) (fun σ H3 h3 => ?_) (fun nx h => ?_)
          · obtain ⟨e3, v7, rfl⟩ := h3
            refine ⟨_, rfl, _, (j :: rest).length, rfl, .inl ⟨_, SqL.of (e3 _ _ hD2), (List.length_map ..).symm⟩, rfl, _, rfl, ?_⟩
            rw [decide_eq_false (fun e => by have := V.int.inj e; simp at this; omega)]
            refine iteF ?_
            refine ⟨_, rfl, rfl, _, rfl, ?_⟩
            refine iteF ?_
            have hl := SqL.of (K := K) (e3 _ _ hD2)
            have h0 : atI ((j :: rest).map fun i : Nat => V.int (i : Int)) 0 = some (.int (j : Int)) := atI_nat (j := 0) rfl
            have hR3 := Evl.ex_l (((e1.trans e2).trans e3)) hR
            refine ⟨_, rfl, _, rfl, _, rfl, D, _, 0, _, rfl, rfl, hl, h0, rl, _, (j : Int), .ref a, rfl, rfl, hR3, atI_nat (by rw [List.getElem?_map, hja]; rfl), _, rfl, D, _, 0, _, rfl, rfl, hl, h0, by rw [sizeLine_eq]; exact (by decide : 2 ≤ 16777216), fun l2 nl2 => ?_⟩
            refine ⟨_, rfl, l2, _, _, (if i = 0 then .ref a else .int (j : Int)), rfl, rfl, SqL.of upd_same, ?_, ?_⟩
            · rw [Int.zero_add]
              match i, hi with
              | 0, _ => exact atI_nat (j := 0) rfl
              | 1, _ => exact atI_nat (j := 1) rfl
            · refine ⟨_, _, rfl, ?_, fun H4 e4 => ⟨_, rfl, iteF ?_⟩⟩
              · match i, hi with
                | 0, _ => exact same_rdT 0 (Evl.Ex.new nl2 _ _ (e3 _ _ ha2))
                | 1, _ => exact .inl (.int _)
              · exact ⟨((e2.trans e3).trans (Evl.Ex.new nl2)).trans e4, _, _, _, _, rfl⟩
          · refine ⟨_, rfl, rfl, _, rfl, ?_⟩
            refine ite2 (fun c => ?_) (fun c => ?_)
            · have hi0 : i = 0 := by have := V.int.inj (of_decide_eq_true c); omega
              refine ⟨_, rfl, x, dx, _, rfl, hx, rfl, _, rfl, x, r.name, ss, rs, sa, ra, rfl, t2, .inl ⟨j, r, a, hj, hja, rfl, h _ _ ⟨Evl.Ex.refl _, v7, ?_⟩⟩⟩
              rw [if_pos hi0]
              rfl
            · have h0 : i ≠ 0 := fun e => c (by rw [e]; rfl)
              refine ⟨_, rfl, x, dx, _, rfl, hx, rfl, _, rfl, x, r.name, ss, rs, sa, ra, rfl, t2, .inl ⟨j, r, a, hj, hja, rfl, h _ _ ⟨Evl.Ex.refl _, v7, ?_⟩⟩⟩
              rw [if_neg h0]
              rfl
      · rintro σ H2 ⟨e2, v4, v5, v6, v7, rfl⟩
        exact q H2 (e1.trans e2)
end
end Rk

namespace Rk
open PySem PySem.Spec PyProof.Rows L2 He Rb C8 SX
theorem pas_sum : ∀ rs : List Rd, (pas rs).sum = (rs.length : Int) + (unk rs : Int)
  | [] => rfl
  | r :: rs => by
    have ih := pas_sum rs
    show (if r.kept then 1 else 2) + (pas rs).sum = _
    have e : unk (r :: rs) = (if r.kept then 0 else 1) + unk rs := by
      unfold unk
      cases h : r.kept
      · rw [List.filter_cons_of_pos (by simp [h])]; simp; omega
      · rw [List.filter_cons_of_neg (by simp [h])]; simp
    rw [ih, e, List.length_cons]
    cases r.kept <;> simp <;> omega
theorem same_stL {K : PySem.W.Frag} {H : Hp} (n : Nat) : ∀ {as : List Addr} {ss : List Stn}, TupsAt H as (ss.map stV) → Paired (Same K (n + 2) H) (as.map V.ref) (as.map V.ref)
  | [], [], _ => .nil
  | _ :: _, _ :: _, .cons h t => .cons (same_stT n h) (same_stL n t)
theorem same_rdL {K : PySem.W.Frag} {H : Hp} (n : Nat) : ∀ {as : List Addr} {rs : List Rd}, TupsAt H as (rs.map rdV) → Paired (Same K (n + 2) H) (as.map V.ref) (as.map V.ref)
  | [], [], _ => .nil
  | _ :: _, _ :: _, .cons h t => .cons (same_rdT n h) (same_rdL n t)
theorem run_cb1 {r : List V → Hp → VK → Prop} {te : TE} {σ : L2.St} {H : Hp} {P : V → Hp → Prop} {Q : VK} (h : EvP te σ H P) (k : ∀ v H1, Ex H H1 → P v H1 → r [v] H1 Q) : tCB r (tCons te tNil) σ H Q := h.run k
theorem run_op {r : R2} {t1 t2 : TE} {σ : L2.St} {H : Hp} {P : V → Hp → Prop} {Q : VK} (h : EvP t1 σ H P) (k : ∀ v H1, Ex H H1 → P v H1 → t2 σ H1 (fun y H2 => r v y H2 Q)) : tOp r t1 t2 σ H Q := h.run k
def unkAt (H : Hp) (a : Addr) : Bool := match H a with
  | some (.tup [_, _, _, .bl k]) => !k
  | _ => false
def nmAt (H : Hp) (a : Addr) : V := match H a with
  | some (.tup (.str n :: _)) => .str n
  | _ => .non
theorem unkAt_rd {H : Hp} {a : Addr} {r : Rd} (h : H a = some (.tup (rdV r))) : unkAt H a = !r.kept := by
  unfold unkAt
  rw [h]
  rfl
theorem nmAt_st {H : Hp} {a : Addr} {n : Str} {l : List V} (h : H a = some (.tup (.str n :: l))) : nmAt H a = .str n := by
  unfold nmAt
  rw [h]
theorem unk_of {H : Hp} : ∀ {as : List Addr} {rs : List Rd}, TupsAt H as (rs.map rdV) → (as.filter (unkAt H)).length = unk rs
  | [], [], _ => rfl
  | a :: as, r :: rs, .cons h t => by
    have ih := unk_of t
    have e := unkAt_rd h
    unfold unk at ih ⊢
    cases hk : r.kept with
    | true => rw [hk] at e; rw [List.filter_cons_of_neg (by simp [e]), List.filter_cons_of_neg (by simp [hk]), ih]
    | false => rw [hk] at e; rw [List.filter_cons_of_pos (by simp [e]), List.filter_cons_of_pos (by simp [hk]), List.length_cons, List.length_cons, ih]
theorem nms_st {H : Hp} : ∀ {as : List Addr} {ss : List Stn}, TupsAt H as (ss.map stV) → as.map (nmAt H) = (ss.map Stn.name).map V.str
  | [], [], _ => rfl
  | a :: as, s :: ss, .cons h t => by
    have ih := nms_st t
    have e : nmAt H a = .str s.name := nmAt_st (l := [.int s.docks, .int s.bikes]) h
    rw [List.map_cons, List.map_cons, List.map_cons, ih, e]
theorem nms_rd {H : Hp} : ∀ {as : List Addr} {rs : List Rd}, TupsAt H as (rs.map rdV) → as.map (nmAt H) = (rs.map Rd.name).map V.str
  | [], [], _ => rfl
  | a :: as, r :: rs, .cons h t => by
    have ih := nms_rd t
    have e : nmAt H a = .str r.name := nmAt_st (l := [.str r.start, .str r.goal, .bl r.kept]) h
    rw [List.map_cons, List.map_cons, List.map_cons, ih, e]
def spHolds (K : PySem.W.Frag) : Sp := fun vs H Q _ => ∃ (x sl rl : Addr) (ss : List Stn) (rs : List Rd) (sa ra : List Addr), vs = [.ref x, .ref sl, .ref rl] ∧ TownF K H x ss rs sa ra ∧ SqL K H sl (sa.map V.ref) ∧ SqL K H rl (ra.map V.ref) ∧ ∀ H', Ex H H' → Q (.bl true) H'
abbrev N__law_holds : List Str := ["town", "stations", "rides", "names", "name", "row", "ride"]
theorem sc__law_holds : FnScope N__law_holds ["town", "stations", "rides"] (defScope s__law_holds) := ⟨rfl, rfl, rfl, by decide +kernel, rfl, by decide +kernel, by decide +kernel⟩
section
variable {P : Program} {w : World} {K : PySem.W.Frag} {mg : Str → Option Value} {base : Heap}
theorem ok_holds (T : Txt K mg) : Cal P w K mg base 7 "_law_holds" (spHolds K) := by
  have M_passes := me_passes (P := P) (w := w) (base := base) T
  have C__law_same := ok_same (P := P) (w := w) (base := base) T 3
  have C__law_fresh := ok_fresh (P := P) (w := w) (base := base) T
  have C__law_station_is := ok_station_is (P := P) (w := w) (base := base) T
  have C__law_ride_is := ok_ride_is (P := P) (w := w) (base := base) T
  obtain ⟨fd, F⟩ := T.d__law_holds
  refine cal_of F (fn_ok0 F sc__law_holds (fun vs H Q E h => ?_) (fun cdv A outer s H vs Q E hr h => ?_)) T.m__law_holds fun _ _ _ _ _ _ us hl => match us, hl with | [_, _, _], _ => rfl
  · obtain ⟨x, sl, rl, ss, rs, sa, ra, rfl, _⟩ := h
    rfl
  · obtain ⟨x, sl, rl, ss, rs, sa, ra, rfl, t, hS, hR, q⟩ := h
    refine ⟨_, pss_cons (ps_if (PW.pt (pw_or (pt_not (pt_val (pe_cal C__law_same hr (by decide) rfl (pa_cons (pe_fldK (K := K) (pv 0) rfl) (pa_cons (pe_callTy (call_tupleK (K := K)) (by rfl) T.n_tuple T.b_tuple (pa_cons (pv 1) (pa_nil))) (pa_nil)))))) (pw_or1 (pt_not (pt_val (pe_cal C__law_same hr (by decide) rfl (pa_cons (pe_fldK (K := K) (pv 0) rfl) (pa_cons (pe_callTy (call_tupleK (K := K)) (by rfl) T.n_tuple T.b_tuple (pa_cons (pv 2) (pa_nil))) (pa_nil)))))))))
      (pss_one (ps_ret (pe_bl)))
      (pss_nil))
      (pss_cons (ps_if (pt_not (pt_val (pe_cal C__law_same hr (by decide) rfl (pa_cons (pe_met0 M_passes hr (by decide) (pv 0)) (pa_cons (pe_op op_add (pe_callB (call_lenK (K := K)) (by rfl) T.n_len T.b_len (pa_cons (pv 2) (pa_nil))) (pe_callB (call_lenK (K := K)) (by rfl) T.n_len T.b_len (pa_cons (pe_lc (own := [("ride", 6)]) rfl sc__law_holds.nd (pi_listK (K := K) (pv 2)) (blkOk_by (N := N__law_holds) (sc := defScope s__law_holds) (by decide +kernel)) (fun _ _ _ _ _ => pg_name (i := 6) sc__law_holds.nd rfl (Or.inl rfl)) (fun _ _ _ _ _ => pts_one (pt_not (pt_val (pe_ix (ix_tupK (K := K)) (pv 6) (pe_int) (fun _ _ => rfl))))) (fun _ _ _ _ _ => pv 6)) (pa_nil)))) (pa_nil))))))
      (pss_one (ps_ret (pe_bl)))
      (pss_nil))
      (pss_cons (ps_set (i := 3) sc__law_holds.nd rfl (Or.inl rfl) (pe_op op_cat (pe_lc (own := [("row", 5)]) rfl sc__law_holds.nd (pi_listK (K := K) (pv 1)) (blkOk_by (N := N__law_holds) (sc := defScope s__law_holds) (by decide +kernel)) (fun _ _ _ _ _ => pg_name (i := 5) sc__law_holds.nd rfl (Or.inl rfl)) (fun _ _ _ _ _ => pts_nil) (fun _ _ _ _ _ => pe_ix (ix_tupK (K := K)) (pv 5) (pe_int) (fun _ _ => rfl))) (pe_lc (own := [("ride", 6)]) rfl sc__law_holds.nd (pi_listK (K := K) (pv 2)) (blkOk_by (N := N__law_holds) (sc := defScope s__law_holds) (by decide +kernel)) (fun _ _ _ _ _ => pg_name (i := 6) sc__law_holds.nd rfl (Or.inl rfl)) (fun _ _ _ _ _ => pts_nil) (fun _ _ _ _ _ => pe_ix (ix_tupK (K := K)) (pv 6) (pe_int) (fun _ _ => rfl)))))
      (pss_cons (ps_set (i := 3) sc__law_holds.nd rfl (Or.inl rfl) (pe_op op_cat (pv 3) (pe_lst (pa_cons (pe_str) (pa_cons (pe_str) (pa_cons (pe_cal C__law_fresh hr (by decide) rfl (pa_cons (pv 3) (pa_nil))) (pa_nil)))))))
      (pss_cons (ps_for PassesOwn.never rfl (pi_listK (K := K) (pv 3)) (pg_name (i := 4) sc__law_holds.nd rfl (Or.inl rfl))
      (pss_one (ps_if (PW.pt (pw_or (pt_not (pt_val (pe_cal C__law_station_is hr (by decide) rfl (pa_cons (pv 0) (pa_cons (pv 4) (pa_cons (pv 1) (pa_nil))))))) (pw_or1 (pt_not (pt_val (pe_cal C__law_ride_is hr (by decide) rfl (pa_cons (pv 0) (pa_cons (pv 4) (pa_cons (pv 2) (pa_nil))))))))))
      (pss_one (ps_ret (pe_bl)))
      (pss_nil))))
      (pss_one (ps_ret (pe_bl))))))), ?_⟩
    have hsl : sa.length = ss.length := by rw [paired_len t.st, List.length_map]
    have hrl : ra.length = rs.length := by rw [paired_len t.rt, List.length_map]
    have oks := t.ok.sl
    have okr := t.ok.rl
    obtain ⟨dx, sd, pd, st, rd, kvs, pvs, hx, hs, hp, hst, hrt, six, pix⟩ := t.ex
    -- the tuples
    refine ⟨_, rfl, x, _, dx, _, .ref st, rfl, hx, T.cl_Town, T.na_Town_stations, rfl, _, rfl, sl, _, rfl, .inl ⟨hS, fun t1 n1 => ?_⟩⟩
    have e1 := Evl.Ex.new (o := .tup (sa.map V.ref)) n1
    refine ⟨.ref st, .ref t1, rfl, .inr (.inl ⟨st, t1, _, _, rfl, rfl, SqT.of (e1 _ _ hst), SqT.of upd_same, by rw [List.length_map]; omega, same_stL 0 (t.st.keep (NL.ex e1))⟩), fun H2 e2 => ⟨_, rfl, iteF ?_⟩⟩
    have e02 := e1.trans e2
    refine ⟨_, rfl, x, _, dx, _, .ref rd, rfl, e02 _ _ hx, T.cl_Town, T.na_Town_rides, rfl, _, rfl, rl, _, rfl, .inl ⟨Evl.ex_l e02 hR, fun t3 n3 => ?_⟩⟩
    have e3 := Evl.Ex.new (o := .tup (ra.map V.ref)) n3
    refine ⟨.ref rd, .ref t3, rfl, .inr (.inl ⟨rd, t3, _, _, rfl, rfl, SqT.of (e3 _ _ (e02 _ _ hrt)), SqT.of upd_same, by rw [List.length_map]; omega, same_rdL 0 (t.rt.keep (NL.ex (e02.trans e3)))⟩), fun H4 e4 => ⟨_, rfl, iteF ?_⟩⟩
    have e04 := (e02.trans e3).trans e4
    generalize upd H2 t3 (.tup (ra.map V.ref)) = H3 at e3 e4 e04
    -- passes
    refine ⟨_, rfl, x, dx, _, rfl, e04 _ _ hx, rfl, x, ss, rs, sa, ra, rfl, t.keep (NL.ex e04), fun H5 e5 => ?_⟩
    have e05 := e04.trans e5
    refine ⟨_, rfl, _, ra.length, rfl, .inl ⟨_, Evl.ex_l e05 hR, (List.length_map ..).symm⟩, ?_⟩
    have t5 := t.keep (NL.ex e05)
    refine run_cb1 (ev_lcL (p := unkAt H5) (g := V.ref) ra V.ref (Evl.ev_var rfl) (Evl.ex_l e05 hR) (by omega) (fun x => rfl) (fun a ha H6 e6 H7 e7 Q2 k => ?_) fun x hx hp H2 e2 => Evl.ev_var rfl) fun v H6 e6 ⟨D, hv, hD, hH6⟩ => ?_
    · obtain ⟨rr, hr1, har⟩ := t5.rt.memr ha
      obtain ⟨r, hr2, rfl⟩ := List.mem_map.mp hr1
      have k := k H7 (Evl.Ex.refl _)
      rw [unkAt_rd har] at k
      exact ⟨_, rfl, a, _, 3, .bl r.kept, rfl, rfl, SqT.of (e7 _ _ (e6 _ _ har)), atI_nat (j := 3) rfl, _, rfl, k⟩
    · subst hv
      have e06 := e05.trans e6
      refine ⟨_, unk rs, rfl, .inl ⟨_, SqL.of hH6, by rw [List.length_map, unk_of t5.rt]⟩, _, _, rfl, rfl, ?_⟩
      have ep : (pas rs).sum = (ra.length : Int) + (unk rs : Int) := by rw [pas_sum, hrl]
      refine ⟨_, _, rfl, by rw [ep]; exact .inl (.int _), fun H7 e7 => ⟨_, rfl, iteF ?_⟩⟩
      have e07 := e06.trans e7
      have t7 := t.keep (NL.ex e07)
      -- names
      dsimp only [tNext, tSeq, tAsg]
      refine run_op (ev_lcL (p := fun _ => true) (g := nmAt H7) sa V.ref (Evl.ev_var rfl) (Evl.ex_l e07 hS) (by omega) (fun x => rfl) (fun a ha H6 e6 => et_yes) fun a ha _ H8 e8 H9 e9 Q2 k => ?_) fun v H8 e8 ⟨D1, hv, hD1, hH8⟩ => ?_
      · obtain ⟨rr, hr1, har⟩ := t7.st.memr ha
        obtain ⟨s, hr2, rfl⟩ := List.mem_map.mp hr1
        have k := k H9 (Evl.Ex.refl _)
        rw [nmAt_st (l := [.int s.docks, .int s.bikes]) har] at k
        exact ⟨_, rfl, a, _, 0, .str s.name, rfl, rfl, SqT.of (e9 _ _ (e8 _ _ har)), atI_nat (j := 0) rfl, k⟩
      · subst hv
        rw [List.filter_eq_self.mpr (fun _ _ => rfl), nms_st t7.st] at hH8
        have e08 := e07.trans e8
        refine EvP.run (ev_lcL (p := fun _ => true) (g := nmAt H7) ra V.ref (Evl.ev_var rfl) (Evl.ex_l e08 hR) (by omega) (fun x => rfl) (fun a ha H6 e6 => et_yes) fun a ha _ H9 e9 H10 e10 Q2 k => ?_) fun v H9 e9 ⟨D2, hv, hD2, hH9⟩ => ?_
        · obtain ⟨rr, hr1, har⟩ := t7.rt.memr ha
          obtain ⟨r, hr2, rfl⟩ := List.mem_map.mp hr1
          have k := k H10 (Evl.Ex.refl _)
          rw [nmAt_st (l := [.str r.start, .str r.goal, .bl r.kept]) har] at k
          exact ⟨_, rfl, a, _, 0, .str r.name, rfl, rfl, SqT.of (e10 _ _ (e9 _ _ (e8 _ _ har))), atI_nat (j := 0) rfl, k⟩
        · subst hv
          rw [List.filter_eq_self.mpr (fun _ _ => rfl), nms_rd t7.rt] at hH9
          have e09 := e08.trans e9
          refine ⟨D1, D2, _, _, rfl, rfl, e9 _ _ hH8, hH9, by rw [List.length_map, List.length_map, List.length_map, List.length_map, sizeLine_eq]; omega, fun D3 nD3 => ?_⟩
          have e10 := Evl.Ex.new (o := .lst ((ss.map Stn.name).map V.str ++ (rs.map Rd.name).map V.str)) nD3
          have hH10 : upd H9 D3 (.lst ((ss.map Stn.name).map V.str ++ (rs.map Rd.name).map V.str)) D3 = some (.lst ((ss.map Stn.name ++ rs.map Rd.name).map V.str)) := by rw [upd_same, List.map_append]
          have e010 := e09.trans e10
          generalize upd H9 D3 (.lst ((ss.map Stn.name).map V.str ++ (rs.map Rd.name).map V.str)) = H10 at hH10 e010
          have hnl : (ss.map Stn.name ++ rs.map Rd.name).length < 60 := by rw [List.length_append, List.length_map, List.length_map]; omega
          generalize ss.map Stn.name ++ rs.map Rd.name = ns at hH10 hnl
          refine ⟨_, rfl, _, rfl, D3, ns, rfl, SqL.of hH10, hnl, fun s H11 _ _ e11 => ⟨by rw [sizeLine_eq]; exact (by decide : 3 ≤ 16777216), fun l nl => ?_⟩⟩
          refine ⟨D3, l, _, _, rfl, rfl, Evl.Ex.new nl _ _ (e11 _ _ hH10), upd_same, by rw [List.length_map, sizeLine_eq]; show ns.length + 3 ≤ _; omega, fun D5 nD5 => ?_⟩
          have e012 := ((e010.trans e11).trans (Evl.Ex.new (o := .lst [.str "street", .str "ninesigns", .str s]) nl)).trans (Evl.Ex.new (o := .lst (ns.map V.str ++ [.str "street", .str "ninesigns", .str s])) nD5)
          have hH12 : upd (upd H11 l (.lst [.str "street", .str "ninesigns", .str s])) D5 (.lst (ns.map V.str ++ [.str "street", .str "ninesigns", .str s])) D5 = some (.lst ((ns ++ [("street" : Str), ("ninesigns" : Str), s]).map V.str)) := by rw [upd_same, List.map_append]; rfl
          generalize upd (upd H11 l (.lst [.str "street", .str "ninesigns", .str s])) D5 (.lst (ns.map V.str ++ [.str "street", .str "ninesigns", .str s])) = H12 at e012 hH12
          generalize ns ++ [("street" : Str), ("ninesigns" : Str), s] = ms at hH12
          refine ⟨_, rfl, D5, rfl, ⟨_, SqL.of hH12⟩, for_list (xs := ms.map V.str) (fun i σ H' => Ex H12 H' ∧ ∃ v4, σ = [some (.ref x), some (.ref sl), some (.ref rl), some (.ref D5), v4, none, none]) ⟨Evl.Ex.refl _, _, rfl⟩ ?_ ?_ ?_⟩
          · rintro i σ H' hi ⟨e, _⟩
            exact SqL.of (e _ _ hH12)
          · rintro i y σ H13 hy ⟨e13, v4, rfl⟩
            rw [List.getElem?_map] at hy
            cases hm : ms[i]? with
            | none => rw [hm] at hy; cases hy
            | some z =>
              rw [hm] at hy
              cases hy
              have e013 := e012.trans e13
              refine ⟨_, rfl, _, rfl, _, rfl, x, sl, z, ss, rs, sa, ra, rfl, t.keep (NL.ex e013), Evl.ex_l e013 hS, fun H14 e14 => ⟨_, rfl, iteF ?_⟩⟩
              have e014 := e013.trans e14
              refine ⟨_, rfl, _, rfl, _, rfl, x, rl, z, ss, rs, sa, ra, rfl, t.keep (NL.ex e014), Evl.ex_l e014 hR, fun H15 e15 => ⟨_, rfl, iteF ?_⟩⟩
              exact ⟨(e13.trans e14).trans e15, _, rfl⟩
          · rintro σ H13 ⟨e13, v4, rfl⟩
            exact q H13 (e012.trans e13)
end
end Rk

namespace Rk
open PySem PySem.Spec PyProof.Rows L2 He Rb C8 SX
theorem Lists.ex {H H' : Hp} {l sl rl : Addr} {sa ra : List Addr} {ss : List Stn} {rs : List Rd} (L : Lists H l sl rl sa ra ss rs) (e : Ex H H') : Lists H' l sl rl sa ra ss rs := ⟨e _ _ L.l, e _ _ L.s, L.st.keep (NL.ex e), e _ _ L.r, L.rt.keep (NL.ex e)⟩
theorem Lists.upd {H : Hp} {l sl rl q : Addr} {sa ra : List Addr} {ss : List Stn} {rs : List Rd} {ys zs : List V} (L : Lists H l sl rl sa ra ss rs) (h : H q = some (.lst ys)) (n : q ≠ l ∧ q ≠ sl ∧ q ≠ rl) : Lists (upd H q (.lst zs)) l sl rl sa ra ss rs :=
  ⟨by rw [upd_ne n.1.symm]; exact L.l, by rw [upd_ne n.2.1.symm]; exact L.s, L.st.keep (NL.upd h), by rw [upd_ne n.2.2.symm]; exact L.r, L.rt.keep (NL.upd h)⟩
theorem Lists.new {H : Hp} {l sl rl q : Addr} {sa ra : List Addr} {ss : List Stn} {rs : List Rd} (L : Lists H l sl rl sa ra ss rs) (h : H q = none) : q ≠ l ∧ q ≠ sl ∧ q ≠ rl := ⟨(ne_of_none L.l h).symm, (ne_of_none L.s h).symm, (ne_of_none L.r h).symm⟩
theorem ex_fr {H H' : Hp} {p : Addr} {o : HO} (hp : H p = none) (f : Fr p (upd H p o) H') : Ex H H' := fun b u h => by
  have hb : b ≠ p := fun e => by rw [e, hp] at h; cases h
  exact f b u hb (by rw [upd_ne hb]; exact h)
def ins0 (xs : List V) (y : V) : List V := xs.take (0 : Int).toNat ++ [y] ++ xs.drop (0 : Int).toNat
theorem ins0_len (xs : List V) (y : V) : (ins0 xs y).length = xs.length + 1 := by
  unfold ins0
  rw [List.length_append, List.length_append]
  show (xs.take 0).length + 1 + (xs.drop 0).length = _
  simp
  omega
theorem fn_okZ {P : Program} {w : World} {K : PySem.W.Frag} {mg : Str → Option Value} {base : Heap} {x qual : Str} {st : Stmt} {f : Addr} {fd : FuncData} {N ps : List Str} {k : Nat} {sp : Sp} (F : FnP K x qual st f fd) (S : FnScope N ps (defScope st)) (len : ∀ vs H Q E, sp vs H Q E → vs.length = ps.length)
    (hbody : ∀ (cdv : Value) (A : Around) (outer : List Env) (s : Shared) (H : Hp) (vs : List V) (Q : VK) (E : XK), Room k (A.deeper (envOfC qual (defScope st) s.heap.objs.size f cdv)) → sp vs H Q E →
      ∃ t, PSs (cxOf L2.CX0 P w K mg base N qual (defScope st) f cdv A outer s H E).nox (defBody st) t ∧ t { nx := fun _ H' => Q .non H', rt := Q } (start N vs) H) : FnOk P w K mg base L2.CX0 (k + 1) f fd ps sp :=
  F.ok S len fun cdv A outer s H vs Q E hr h => by
    obtain ⟨t, h1, h2⟩ := hbody cdv A outer s H vs Q E hr h
    exact ⟨t, h1.nox, h2⟩
def spLaw (K : PySem.W.Frag) : Sp := fun vs H Q _ => ∃ (a : Addr) (ns : List Int), vs = [.ref a] ∧ SqL K H a (ns.map V.int) ∧ ∀ H', Q (.bl true) H'
abbrev N_law : List Str := ["script", "first", "second", "stations", "rides", "town", "near", "far", "other"]
theorem sc_law : FnScope N_law ["script"] (defScope s_law) := ⟨rfl, rfl, rfl, by decide +kernel, rfl, by decide +kernel, by decide +kernel⟩
section
variable {P : Program} {w : World} {K : PySem.W.Frag} {mg : Str → Option Value} {base : Heap}
theorem ok_law (T : Txt K mg) {fd : FuncData} (F : FnP K "law" "law" s_law (ga K "law") fd) : FnOk P w K mg base L2.CX0 8 (ga K "law") fd ["script"] (spLaw K) := by
  have C__law_cell := ok_cell (P := P) (w := w) (base := base) T
  have C__law_pool := ok_pool (P := P) (w := w) (base := base) T
  have C__law_lists := ok_lists (P := P) (w := w) (base := base) T
  have MK_Town := mk_town (P := P) (w := w) (base := base) T
  have C__law_same := ok_same (P := P) (w := w) (base := base) T 4
  have C__law_holds := ok_holds (P := P) (w := w) (base := base) T
  have CM_empty := cm_empty (P := P) (w := w) (base := base) T
  obtain ⟨u1, cv1⟩ := T.cv_Town_MOST_STATIONS
  obtain ⟨u2, cv2⟩ := T.cv_Town_MOST_RIDES
  obtain ⟨u3, cv3⟩ := T.cv_Town_MOST_DOCKS
  refine fn_okZ F sc_law (fun vs H Q E h => ?_) (fun cdv A outer s H vs Q E hr h => ?_)
  · obtain ⟨a, ns, rfl, _⟩ := h
    rfl
  · obtain ⟨a, ns, rfl, hS, q⟩ := h
    refine ⟨_, pss_cons (ps_set (i := 1) sc_law.nd rfl (Or.inl rfl) (pe_cal C__law_lists hr (by decide) rfl (pa_cons (pe_cal C__law_pool hr (by decide) rfl (pa_cons (pe_cal C__law_cell hr (by decide) rfl (pa_cons (pv 0) (pa_cons (pe_int) (pa_nil)))) (pa_nil))) (pa_nil))))
      (pss_cons (ps_set (i := 2) sc_law.nd rfl (Or.inl rfl) (pe_cal C__law_lists hr (by decide) rfl (pa_cons (pe_cal C__law_pool hr (by decide) rfl (pa_cons (pe_cal C__law_cell hr (by decide) rfl (pa_cons (pv 0) (pa_cons (pe_int) (pa_nil)))) (pa_nil))) (pa_nil))))
      (pss_cons (ps_set (i := 3) sc_law.nd rfl (Or.inl rfl) (pe_callTy (call_listK (K := K)) (by rfl) T.n_list T.b_list (pa_cons (pe_ix (ix_listK (K := K)) (pv 1) (pe_int) (fun _ _ => rfl)) (pa_nil))))
      (pss_cons (ps_set (i := 4) sc_law.nd rfl (Or.inl rfl) (pe_callTy (call_listK (K := K)) (by rfl) T.n_list T.b_list (pa_cons (pe_ix (ix_listK (K := K)) (pv 1) (pe_int) (fun _ _ => rfl)) (pa_nil))))
      (pss_cons (ps_set (i := 5) sc_law.nd rfl (Or.inl rfl) (pe_mkX MK_Town hr (by decide) rfl (pa_cons (pv 3) (pa_cons (pv 4) (pa_nil)))))
      (pss_cons (ps_if (PW.pt (pw_or (pt_not (pt_val (pe_cal C__law_same hr (by decide) rfl (pa_cons (pe_lst (pa_cons (pv 3) (pa_cons (pv 4) (pa_nil)))) (pa_cons (pv 1) (pa_nil)))))) (pw_or1 (pt_not (pt_val (pe_cal C__law_holds hr (by decide) rfl (pa_cons (pv 5) (pa_cons (pe_ix (ix_listK (K := K)) (pv 1) (pe_int) (fun _ _ => rfl)) (pa_cons (pe_ix (ix_listK (K := K)) (pv 1) (pe_int) (fun _ _ => rfl)) (pa_nil))))))))))
      (pss_one (ps_ret (pe_bl)))
      (pss_nil))
      (pss_cons (ps_set (i := 6) sc_law.nd rfl (Or.inl rfl) (pe_callTy (call_listK (K := K)) (by rfl) T.n_list T.b_list (pa_cons (pe_ix (ix_listK (K := K)) (pv 2) (pe_int) (fun _ _ => rfl)) (pa_nil))))
      (pss_cons (ps_set (i := 7) sc_law.nd rfl (Or.inl rfl) (pe_callTy (call_listK (K := K)) (by rfl) T.n_list T.b_list (pa_cons (pe_ix (ix_listK (K := K)) (pv 2) (pe_int) (fun _ _ => rfl)) (pa_nil))))
      (pss_cons (ps_set (i := 8) sc_law.nd rfl (Or.inl rfl) (pe_mkX MK_Town hr (by decide) rfl (pa_cons (pv 6) (pa_cons (pv 7) (pa_nil)))))
      (pss_cons (ps_expr (pe_bmK (K := K) PySem.F.plainAttrs_list PySem.F.slot_list_insert PySem.F.type_list_insert mt_insert (pv 6) (pa_cons (pe_int) (pa_cons (pe_tup (pa_cons (pe_str) (pa_cons (pe_int) (pa_cons (pe_int) (pa_nil))))) (pa_nil)))))
      (pss_cons (ps_expr (pe_bm0 PySem.F.plainAttrs_list PySem.F.slot_list_clear PySem.F.type_list_clear mt_clear (pv 7)))
      (pss_cons (ps_expr (pe_bmK (K := K) PySem.F.plainAttrs_list PySem.F.slot_list_insert PySem.F.type_list_insert mt_insert (pv 3) (pa_cons (pe_int) (pa_cons (pe_tup (pa_cons (pe_str) (pa_cons (pe_int) (pa_cons (pe_int) (pa_nil))))) (pa_nil)))))
      (pss_cons (ps_expr (pe_bmK (K := K) PySem.F.plainAttrs_list PySem.F.slot_list_insert PySem.F.type_list_insert mt_insert (pv 4) (pa_cons (pe_int) (pa_cons (pe_tup (pa_cons (pe_str) (pa_cons (pe_str) (pa_cons (pe_str) (pa_cons (pe_bl) (pa_nil)))))) (pa_nil)))))
      (pss_cons (ps_if (pt_cmpR op_gt (pe_callB (call_lenK (K := K)) (by rfl) T.n_len T.b_len (pa_cons (pv 3) (pa_nil))) (pe_int) (nomark _))
      (pss_one (ps_expr (pe_bm0 PySem.F.plainAttrs_list PySem.F.slot_list_pop PySem.F.type_list_pop mt_pop (pv 3))))
      (pss_nil))
      (pss_cons (ps_if (pt_cmpR op_gt (pe_callB (call_lenK (K := K)) (by rfl) T.n_len T.b_len (pa_cons (pv 4) (pa_nil))) (pe_int) (nomark _))
      (pss_one (ps_expr (pe_bm0 PySem.F.plainAttrs_list PySem.F.slot_list_pop PySem.F.type_list_pop mt_pop (pv 4))))
      (pss_nil))
      (pss_cons (ps_if (PW.pt (pw_or (pt_not (pt_val (pe_cal C__law_holds hr (by decide) rfl (pa_cons (pv 8) (pa_cons (pe_ix (ix_listK (K := K)) (pv 2) (pe_int) (fun _ _ => rfl)) (pa_cons (pe_ix (ix_listK (K := K)) (pv 2) (pe_int) (fun _ _ => rfl)) (pa_nil))))))) (pw_or1 (pt_not (pt_val (pe_cal C__law_holds hr (by decide) rfl (pa_cons (pv 5) (pa_cons (pe_ix (ix_listK (K := K)) (pv 1) (pe_int) (fun _ _ => rfl)) (pa_cons (pe_ix (ix_listK (K := K)) (pv 1) (pe_int) (fun _ _ => rfl)) (pa_nil))))))))))
      (pss_one (ps_ret (pe_bl)))
      (pss_nil))
      (pss_cons (ps_if (pt_not (pt_val (pe_cal C__law_same hr (by decide) rfl (pa_cons (pe_lst (pa_cons (ClX.pe_cval (pe_glob (v := .ref (ga K "Town")) rfl T.m_Town rfl)) (pa_cons (ClX.pe_cval (pe_glob (v := .ref (ga K "Town")) rfl T.m_Town rfl)) (pa_cons (ClX.pe_cval (pe_glob (v := .ref (ga K "Town")) rfl T.m_Town rfl)) (pa_nil))))) (pa_cons (pe_lst (pa_cons (pe_int) (pa_cons (pe_int) (pa_cons (pe_int) (pa_nil))))) (pa_nil))))))
      (pss_one (ps_ret (pe_bl)))
      (pss_nil))
      (pss_one (ps_ret (pe_cal C__law_holds hr (by decide) rfl (pa_cons (pe_cmeth0 (pe_glob (v := .ref (ga K "Town")) rfl T.m_Town rfl) T.cr_Town T.cm_Town_empty CM_empty (hr.mono (by decide)) passL) (pa_cons (pe_lst (pa_nil)) (pa_cons (pe_lst (pa_nil)) (pa_nil))))))))))))))))))))))), ?_⟩
    refine ⟨_, rfl, a, ns, 0, rfl, hS, fun n1 => ⟨n1, rfl, fun p1 pl1 np1 hpl1 => ⟨p1, pl1, rfl, upd_same, hpl1, fun l1 s1 r1 sa1 ra1 ss1 rs1 H1 ok1 L1 f1 => ?_⟩⟩⟩
    have x1 := ex_fr np1 f1
    refine ⟨_, rfl, a, ns, 1, rfl, Evl.ex_l x1 hS, fun n2 => ⟨n2, rfl, fun p2 pl2 np2 hpl2 => ⟨p2, pl2, rfl, upd_same, hpl2, fun l2 s2 r2 sa2 ra2 ss2 rs2 H2 ok2 L2' f2 => ?_⟩⟩⟩
    have x2 := ex_fr np2 f2
    have L1 := L1.ex x2
    clear f1 f2
    -- stations, rides, town
    refine ⟨_, rfl, l1, _, 0, .ref s1, rfl, rfl, SqL.of L1.l, atI_nat (j := 0) rfl, s1, _, rfl, .inl (SqL.of L1.s), fun a1 na1 => ?_⟩
    have e3 := Evl.Ex.new (o := .lst (sa1.map V.ref)) na1
    have M1 := L1.new na1
    have M2 := L2'.new na1
    have L1 := L1.ex e3
    have L2' := L2'.ex e3
    have ha1 : upd H2 a1 (.lst (sa1.map V.ref)) a1 = some (.lst (sa1.map V.ref)) := upd_same
    generalize upd H2 a1 (.lst (sa1.map V.ref)) = H3 at e3 L1 L2' ha1
    refine ⟨_, rfl, l1, _, 1, .ref r1, rfl, rfl, SqL.of L1.l, atI_nat (j := 1) rfl, r1, _, rfl, .inl (SqL.of L1.r), fun b1 nb1 => ?_⟩
    have e4 := Evl.Ex.new (o := .lst (ra1.map V.ref)) nb1
    have N1 := L1.new nb1
    have N2 := L2'.new nb1
    have L1 := L1.ex e4
    have L2' := L2'.ex e4
    have nab : a1 ≠ b1 := ne_of_none ha1 nb1
    have ha1 := e4 _ _ ha1
    have hb1 : upd H3 b1 (.lst (ra1.map V.ref)) b1 = some (.lst (ra1.map V.ref)) := upd_same
    generalize upd H3 b1 (.lst (ra1.map V.ref)) = H4 at e4 L1 L2' ha1 hb1
    refine ⟨_, rfl, _, rfl, fun t dx nt ndx hne => ?_⟩
    have k5 : ∀ b o, H4 b = some o → (upd (upd H4 dx (.own t)) t (.ins (ga K "Town") dx [])) b = some o := fun b o h => by
      rw [upd_ne (fun e => by rw [e, nt] at h; cases h), upd_ne (fun e => by rw [e, ndx] at h; cases h)]
      exact h
    have L1k := L1.ex (H' := upd (upd H4 dx (.own t)) t (.ins (ga K "Town") dx [])) k5
    refine ⟨t, dx, a1, b1, ss1, rs1, sa1, ra1, rfl, upd_same, SqL.of (k5 _ _ ha1), L1k.st, SqL.of (k5 _ _ hb1), L1k.rt, ok1, fun H5 T1 f5 => ⟨rfl, ?_⟩⟩
    have e5 := ex_make nt ndx hne f5
    have L1 := L1.ex e5
    have L2' := L2'.ex e5
    have ha1 := e5 _ _ ha1
    have hb1 := e5 _ _ hb1
    clear f5 L1k k5 e5 e4 e3
    -- if not _law_same(..) or not _law_holds(..)
    refine ⟨_, rfl, _, rfl, by rw [sizeLine_eq]; exact (by decide : 2 ≤ 16777216), fun c1 nc1 => ?_⟩
    have e6 := Evl.Ex.new (o := .lst [.ref a1, .ref b1]) nc1
    have hc1 : upd H5 c1 (.lst [.ref a1, .ref b1]) c1 = some (.lst [.ref a1, .ref b1]) := upd_same
    have L1 := L1.ex e6
    have L2' := L2'.ex e6
    have ha1 := e6 _ _ ha1
    have hb1 := e6 _ _ hb1
    have T1 := T1.keep (NL.ex e6)
    generalize upd H5 c1 (.lst [.ref a1, .ref b1]) = H6 at e6 L1 L2' ha1 hb1 hc1 T1
    have hsa1 : sa1.length ≤ 12 := by rw [paired_len T1.st, List.length_map]; exact ok1.sl
    have hra1 : ra1.length ≤ 24 := by rw [paired_len T1.rt, List.length_map]; exact ok1.rl
    refine ⟨_, rfl, .ref c1, .ref l1, rfl, .inr (.inr ⟨c1, l1, _, _, rfl, rfl, SqL.of hc1, SqL.of L1.l, (by decide : 2 ≤ 1000), .cons (.inr (.inr ⟨a1, s1, _, _, rfl, rfl, SqL.of ha1, SqL.of L1.s, by rw [List.length_map]; omega, same_stL 0 T1.st⟩)) (.cons (.inr (.inr ⟨b1, r1, _, _, rfl, rfl, SqL.of hb1, SqL.of L1.r, by rw [List.length_map]; omega, same_rdL 0 T1.rt⟩)) .nil)⟩), fun H7 e7 => ⟨_, rfl, iteF ?_⟩⟩
    have L1 := L1.ex e7
    have L2' := L2'.ex e7
    have ha1 := e7 _ _ ha1
    have hb1 := e7 _ _ hb1
    have T1 := T1.keep (NL.ex e7)
    refine ⟨_, rfl, _, rfl, l1, _, 0, .ref s1, rfl, rfl, SqL.of L1.l, atI_nat (j := 0) rfl, _, rfl, l1, _, 1, .ref r1, rfl, rfl, SqL.of L1.l, atI_nat (j := 1) rfl, t, s1, r1, ss1, rs1, sa1, ra1, rfl, T1, SqL.of L1.s, SqL.of L1.r, fun H8 e8 => ⟨_, rfl, iteF ?_⟩⟩
    have L1 := L1.ex e8
    have L2' := L2'.ex e8
    have ha1 := e8 _ _ ha1
    have hb1 := e8 _ _ hb1
    have T1 := T1.keep (NL.ex e8)
    refine ⟨_, rfl, l2, _, 0, .ref s2, rfl, rfl, SqL.of L2'.l, atI_nat (j := 0) rfl, s2, _, rfl, .inl (SqL.of L2'.s), fun a2 na2 => ?_⟩
    have e9 := Evl.Ex.new (o := .lst (sa2.map V.ref)) na2
    have O1 := L1.new na2
    have O2 := L2'.new na2
    have d1 : a1 ≠ a2 := ne_of_none ha1 na2
    have d2 : b1 ≠ a2 := ne_of_none hb1 na2
    have L1 := L1.ex e9
    have L2' := L2'.ex e9
    have ha1 := e9 _ _ ha1
    have hb1 := e9 _ _ hb1
    have T1 := T1.keep (NL.ex e9)
    have ha2 : upd H8 a2 (.lst (sa2.map V.ref)) a2 = some (.lst (sa2.map V.ref)) := upd_same
    generalize upd H8 a2 (.lst (sa2.map V.ref)) = H9 at e9 L1 L2' ha1 hb1 ha2 T1
    refine ⟨_, rfl, l2, _, 1, .ref r2, rfl, rfl, SqL.of L2'.l, atI_nat (j := 1) rfl, r2, _, rfl, .inl (SqL.of L2'.r), fun b2 nb2 => ?_⟩
    have e10 := Evl.Ex.new (o := .lst (ra2.map V.ref)) nb2
    have P1 := L1.new nb2
    have P2 := L2'.new nb2
    have d3 : a1 ≠ b2 := ne_of_none ha1 nb2
    have d4 : b1 ≠ b2 := ne_of_none hb1 nb2
    have d5 : a2 ≠ b2 := ne_of_none ha2 nb2
    have L1 := L1.ex e10
    have L2' := L2'.ex e10
    have ha1 := e10 _ _ ha1
    have hb1 := e10 _ _ hb1
    have ha2 := e10 _ _ ha2
    have T1 := T1.keep (NL.ex e10)
    have hb2 : upd H9 b2 (.lst (ra2.map V.ref)) b2 = some (.lst (ra2.map V.ref)) := upd_same
    generalize upd H9 b2 (.lst (ra2.map V.ref)) = H10 at e10 L1 L2' ha1 hb1 ha2 hb2 T1
    refine ⟨_, rfl, _, rfl, fun t2 dx2 nt2 ndx2 hne2 => ?_⟩
    have k5 : ∀ b o, H10 b = some o → (upd (upd H10 dx2 (.own t2)) t2 (.ins (ga K "Town") dx2 [])) b = some o := fun b o h => by
      rw [upd_ne (fun e => by rw [e, nt2] at h; cases h), upd_ne (fun e => by rw [e, ndx2] at h; cases h)]
      exact h
    have L2k := L2'.ex (H' := upd (upd H10 dx2 (.own t2)) t2 (.ins (ga K "Town") dx2 [])) k5
    refine ⟨t2, dx2, a2, b2, ss2, rs2, sa2, ra2, rfl, upd_same, SqL.of (k5 _ _ ha2), L2k.st, SqL.of (k5 _ _ hb2), L2k.rt, ok2, fun H11 T2 f11 => ⟨rfl, ?_⟩⟩
    have e11 := ex_make nt2 ndx2 hne2 f11
    have L1 := L1.ex e11
    have L2' := L2'.ex e11
    have ha1 := e11 _ _ ha1
    have hb1 := e11 _ _ hb1
    have ha2 := e11 _ _ ha2
    have hb2 := e11 _ _ hb2
    have T1 := T1.keep (NL.ex e11)
    have hsa2 : sa2.length ≤ 12 := by rw [paired_len T2.st, List.length_map]; exact ok2.sl
    clear f11 L2k k5 e11 e10 e9 e8 e7 e6
    -- near.insert
    have hlen : ∀ as : List Addr, as.length ≤ 24 → (as.map V.ref).length < sizeLine := fun as h => by rw [List.length_map, sizeLine_eq]; omega
    refine ⟨_, rfl, Or.inl ⟨rfl, _, SqL.of ha2⟩, by rw [sizeLine_eq]; exact (by decide : 3 ≤ 16777216), fun q1 nq1 => ⟨a2, _, 0, .ref q1, rfl, rfl, Evl.Ex.new nq1 _ _ ha2, hlen _ (by omega), by decide, by decide, ?_⟩⟩
    have e12 := Evl.Ex.new (o := .tup [.str "spoilt", .int 3, .int 1]) nq1
    have L1 := (L1.ex e12).upd (zs := ins0 (sa2.map V.ref) (.ref q1)) (e12 _ _ ha2) O1
    have L2' := (L2'.ex e12).upd (zs := ins0 (sa2.map V.ref) (.ref q1)) (e12 _ _ ha2) O2
    have T1 := (T1.keep (NL.ex e12)).keep (NL.upd (ys := ins0 (sa2.map V.ref) (.ref q1)) (e12 _ _ ha2))
    have T2 := (T2.keep (NL.ex e12)).keep (NL.upd (ys := ins0 (sa2.map V.ref) (.ref q1)) (e12 _ _ ha2))
    have ha1' : upd (upd H11 q1 (.tup [.str "spoilt", .int 3, .int 1])) a2 (.lst (ins0 (sa2.map V.ref) (.ref q1))) a1 = some (.lst (sa1.map V.ref)) := by rw [upd_ne d1]; exact e12 _ _ ha1
    have hb1' : upd (upd H11 q1 (.tup [.str "spoilt", .int 3, .int 1])) a2 (.lst (ins0 (sa2.map V.ref) (.ref q1))) b1 = some (.lst (ra1.map V.ref)) := by rw [upd_ne d2]; exact e12 _ _ hb1
    have hb2' : upd (upd H11 q1 (.tup [.str "spoilt", .int 3, .int 1])) a2 (.lst (ins0 (sa2.map V.ref) (.ref q1))) b2 = some (.lst (ra2.map V.ref)) := by rw [upd_ne d5.symm]; exact e12 _ _ hb2
    change tSeq _ _ _ _ (upd (upd H11 q1 (.tup [.str "spoilt", .int 3, .int 1])) a2 (.lst (ins0 (sa2.map V.ref) (.ref q1))))
    generalize upd (upd H11 q1 (.tup [.str "spoilt", .int 3, .int 1])) a2 (.lst (ins0 (sa2.map V.ref) (.ref q1))) = H12 at L1 L2' T1 T2 ha1' hb1' hb2'
    -- far.clear
    refine ⟨_, rfl, Or.inl ⟨rfl, _, SqL.of hb2'⟩, b2, _, rfl, rfl, hb2', ?_⟩
    have L1 := L1.upd (zs := []) hb2' P1
    have L2' := L2'.upd (zs := []) hb2' P2
    have T1 := T1.keep (NL.upd (ys := []) hb2')
    have T2 := T2.keep (NL.upd (ys := []) hb2')
    have ha1' : upd H12 b2 (.lst []) a1 = some (.lst (sa1.map V.ref)) := by rw [upd_ne d3]; exact ha1'
    have hb1' : upd H12 b2 (.lst []) b1 = some (.lst (ra1.map V.ref)) := by rw [upd_ne d4]; exact hb1'
    generalize upd H12 b2 (.lst []) = H13 at L1 L2' T1 T2 ha1' hb1'
    -- stations.insert
    refine ⟨_, rfl, Or.inl ⟨rfl, _, SqL.of ha1'⟩, by rw [sizeLine_eq]; exact (by decide : 3 ≤ 16777216), fun q2 nq2 => ⟨a1, _, 0, .ref q2, rfl, rfl, Evl.Ex.new nq2 _ _ ha1', hlen _ (by omega), by decide, by decide, ?_⟩⟩
    have e14 := Evl.Ex.new (o := .tup [.str "spoilt", .int 3, .int 1]) nq2
    have L1 := (L1.ex e14).upd (zs := ins0 (sa1.map V.ref) (.ref q2)) (e14 _ _ ha1') M1
    have L2' := (L2'.ex e14).upd (zs := ins0 (sa1.map V.ref) (.ref q2)) (e14 _ _ ha1') M2
    have T1 := (T1.keep (NL.ex e14)).keep (NL.upd (ys := ins0 (sa1.map V.ref) (.ref q2)) (e14 _ _ ha1'))
    have T2 := (T2.keep (NL.ex e14)).keep (NL.upd (ys := ins0 (sa1.map V.ref) (.ref q2)) (e14 _ _ ha1'))
    have ha1'' : upd (upd H13 q2 (.tup [.str "spoilt", .int 3, .int 1])) a1 (.lst (ins0 (sa1.map V.ref) (.ref q2))) a1 = some (.lst (ins0 (sa1.map V.ref) (.ref q2))) := upd_same
    have hb1'' : upd (upd H13 q2 (.tup [.str "spoilt", .int 3, .int 1])) a1 (.lst (ins0 (sa1.map V.ref) (.ref q2))) b1 = some (.lst (ra1.map V.ref)) := by rw [upd_ne nab.symm]; exact e14 _ _ hb1'
    change tSeq _ _ _ _ (upd (upd H13 q2 (.tup [.str "spoilt", .int 3, .int 1])) a1 (.lst (ins0 (sa1.map V.ref) (.ref q2))))
    generalize upd (upd H13 q2 (.tup [.str "spoilt", .int 3, .int 1])) a1 (.lst (ins0 (sa1.map V.ref) (.ref q2))) = H14 at L1 L2' T1 T2 ha1'' hb1''
    -- rides.insert
    refine ⟨_, rfl, Or.inl ⟨rfl, _, SqL.of hb1''⟩, by rw [sizeLine_eq]; exact (by decide : 4 ≤ 16777216), fun q3 nq3 => ⟨b1, _, 0, .ref q3, rfl, rfl, Evl.Ex.new nq3 _ _ hb1'', hlen _ (by omega), by decide, by decide, ?_⟩⟩
    have e15 := Evl.Ex.new (o := .tup [.str "spoilt", .str "street", .str "spoilt", .bl true]) nq3
    have L1 := (L1.ex e15).upd (zs := ins0 (ra1.map V.ref) (.ref q3)) (e15 _ _ hb1'') N1
    have L2' := (L2'.ex e15).upd (zs := ins0 (ra1.map V.ref) (.ref q3)) (e15 _ _ hb1'') N2
    have T1 := (T1.keep (NL.ex e15)).keep (NL.upd (ys := ins0 (ra1.map V.ref) (.ref q3)) (e15 _ _ hb1''))
    have T2 := (T2.keep (NL.ex e15)).keep (NL.upd (ys := ins0 (ra1.map V.ref) (.ref q3)) (e15 _ _ hb1''))
    have hb3 : upd (upd H14 q3 (.tup [.str "spoilt", .str "street", .str "spoilt", .bl true])) b1 (.lst (ins0 (ra1.map V.ref) (.ref q3))) b1 = some (.lst (ins0 (ra1.map V.ref) (.ref q3))) := upd_same
    have ha3 : upd (upd H14 q3 (.tup [.str "spoilt", .str "street", .str "spoilt", .bl true])) b1 (.lst (ins0 (ra1.map V.ref) (.ref q3))) a1 = some (.lst (ins0 (sa1.map V.ref) (.ref q2))) := by rw [upd_ne nab]; exact e15 _ _ ha1''
    dsimp only
    change tSeq (tIfS _ _ _) _ _ _ (upd (upd H14 q3 (.tup [.str "spoilt", .str "street", .str "spoilt", .bl true])) b1 (.lst (ins0 (ra1.map V.ref) (.ref q3))))
    generalize upd (upd H14 q3 (.tup [.str "spoilt", .str "street", .str "spoilt", .bl true])) b1 (.lst (ins0 (ra1.map V.ref) (.ref q3))) = H15 at L1 L2' T1 T2 ha3 hb3
    have hz1 := ins0_len (sa1.map V.ref) (.ref q2)
    have hz2 := ins0_len (ra1.map V.ref) (.ref q3)
    generalize ins0 (sa1.map V.ref) (.ref q2) = z1 at ha3 hz1
    generalize ins0 (ra1.map V.ref) (.ref q3) = z2 at hb3 hz2
    have pop : ∀ z : List V, 1 ≤ z.length → ∃ y, z[z.length - 1]? = some y := fun z h => ⟨_, List.getElem?_eq_getElem (by omega)⟩
    refine cutI (fun σ H' => Lists H' l1 s1 r1 sa1 ra1 ss1 rs1 ∧ Lists H' l2 s2 r2 sa2 ra2 ss2 rs2 ∧ TownF K H' t ss1 rs1 sa1 ra1 ∧ TownF K H' t2 ss2 rs2 sa2 ra2 ∧ H' b1 = some (.lst z2) ∧
      σ = [some (.ref a), some (.ref l1), some (.ref l2), some (.ref a1), some (.ref b1), some (.ref t), some (.ref a2), some (.ref b2), some (.ref t2)]) (fun σ H16 h16 => ?_) (fun nx h => ?_)
    · obtain ⟨L1, L2', T1, T2, hb3, rfl⟩ := h16
      refine cutI (fun σ H' => Lists H' l1 s1 r1 sa1 ra1 ss1 rs1 ∧ Lists H' l2 s2 r2 sa2 ra2 ss2 rs2 ∧ TownF K H' t ss1 rs1 sa1 ra1 ∧ TownF K H' t2 ss2 rs2 sa2 ra2 ∧
        σ = [some (.ref a), some (.ref l1), some (.ref l2), some (.ref a1), some (.ref b1), some (.ref t), some (.ref a2), some (.ref b2), some (.ref t2)]) (fun σ H17 h17 => ?_) (fun nx h => ?_)
      · obtain ⟨L1, L2', T1, T2, rfl⟩ := h17
        refine ⟨_, rfl, _, rfl, l2, _, 0, .ref s2, rfl, rfl, SqL.of L2'.l, atI_nat (j := 0) rfl, _, rfl, l2, _, 1, .ref r2, rfl, rfl, SqL.of L2'.l, atI_nat (j := 1) rfl, t2, s2, r2, ss2, rs2, sa2, ra2, rfl, T2, SqL.of L2'.s, SqL.of L2'.r, fun H18 e18 => ⟨_, rfl, iteF ?_⟩⟩
        have L1 := L1.ex e18
        have T1 := T1.keep (NL.ex e18)
        refine ⟨_, rfl, _, rfl, l1, _, 0, .ref s1, rfl, rfl, SqL.of L1.l, atI_nat (j := 0) rfl, _, rfl, l1, _, 1, .ref r1, rfl, rfl, SqL.of L1.l, atI_nat (j := 1) rfl, t, s1, r1, ss1, rs1, sa1, ra1, rfl, T1, SqL.of L1.s, SqL.of L1.r, fun H19 e19 => ⟨_, rfl, iteF ?_⟩⟩
        -- the class values
        refine ⟨_, _, _, _, rfl, T.cr_Town, cv1, _, _, _, _, rfl, T.cr_Town, cv2, _, _, _, _, rfl, T.cr_Town, cv3, by rw [sizeLine_eq]; exact (by decide : 3 ≤ 16777216), fun k1 nk1 => ⟨by rw [sizeLine_eq]; exact (by decide : 3 ≤ 16777216), fun k2 nk2 => ?_⟩⟩
        refine ⟨.ref k1, .ref k2, rfl, .inr (.inr ⟨k1, k2, _, _, rfl, rfl, SqL.of (Evl.Ex.new nk2 _ _ upd_same), SqL.of upd_same, (by decide : 3 ≤ 1000), .cons (.inl (.int _)) (.cons (.inl (.int _)) (.cons (.inl (.int _)) .nil))⟩), fun H20 e20 => ⟨_, rfl, iteF ?_⟩⟩
        -- the empty town
        refine ⟨rfl, rfl, fun x H21 T3 e21 => ⟨by rw [sizeLine_eq]; decide, fun k3 nk3 => ⟨by rw [sizeLine_eq]; decide, fun k4 nk4 => ?_⟩⟩⟩
        exact ⟨x, k3, k4, [], [], [], [], rfl, (T3.keep (NL.ex (Evl.Ex.new nk3))).keep (NL.ex (Evl.Ex.new nk4)), SqL.of (Evl.Ex.new nk4 _ _ upd_same), SqL.of upd_same, fun H22 _ => q H22⟩
      · refine ⟨_, rfl, _, z2.length, rfl, .inl ⟨_, SqL.of hb3, rfl⟩, _, _, rfl, rfl, _, rfl, ?_⟩
        refine ite2 (fun c => ?_) (fun c => h _ _ ⟨L1, L2', T1, T2, rfl⟩)
        obtain ⟨y, hy⟩ := pop z2 (by omega)
        exact ⟨_, rfl, Or.inl ⟨rfl, _, SqL.of hb3⟩, b1, _, y, rfl, rfl, hb3, hy, h _ _ ⟨L1.upd hb3 N1, L2'.upd hb3 N2, T1.keep (NL.upd hb3), T2.keep (NL.upd hb3), rfl⟩⟩
    · refine ⟨_, rfl, _, z1.length, rfl, .inl ⟨_, SqL.of ha3, rfl⟩, _, _, rfl, rfl, _, rfl, ?_⟩
      refine ite2 (fun c => ?_) (fun c => h _ _ ⟨L1, L2', T1, T2, hb3, rfl⟩)
      obtain ⟨y, hy⟩ := pop z1 (by omega)
      exact ⟨_, rfl, Or.inl ⟨rfl, _, SqL.of ha3⟩, a1, _, y, rfl, rfl, ha3, hy, h _ _ ⟨L1.upd ha3 M1, L2'.upd ha3 M2, T1.keep (NL.upd ha3), T2.keep (NL.upd ha3), by rw [upd_ne nab.symm]; exact hb3, rfl⟩⟩
end
end Rk

namespace Rk
open PySem PySem.Spec PyProof.Rows L2 He Rb
theorem facts {P : Program} {w : World} {K : PySem.W.Frag} {h : Heap} {mg : Str → Option Value} {f : Addr} (X : K.In h) (G : h.Ns mainGlobals mg) (hfa : mg ("law" : Str) = some (.ref f)) (c : SaysR fa ex fn K) :
    ∃ fd : FuncData, (∀ (s : Shared) (v : Value), BindsTo s fd ⟨[v], []⟩ [("script", v)]) ∧ ∀ base : Heap, K.In base → base.Ns mainGlobals mg → FnOk P w K mg base L2.CX0 8 f fd ["script"] (spLaw K) := by
  have T := txt_of X G c
  obtain ⟨fd, F⟩ := T.d_law
  have e := hfa.symm.trans T.m_law
  cases e
  have b := FunD.bindsA (ps := ["script"]) F fun _ _ _ _ _ _ us hl => match us, hl with | [_], _ => rfl
  exact ⟨fd, fun s v => b s [v] rfl, fun base _ _ => ok_law T F⟩
end Rk
open PySem PySem.W PySem.Calls PyProof.Rows
theorem PySem.Challenge.cw_ridesonce_k00_a_town_holds_its_lists_holds : PySem.Challenge.rw_ridesonce_k00_a_town_holds_its_lists.Holds := by
  w_on; o_law
  refine HandSHeadRun.head_any (r := OpenLaw.row PySem.Challenge.rw_ridesonce_k00_a_town_holds_its_lists) (q := view (OpenLaw.row PySem.Challenge.rw_ridesonce_k00_a_town_holds_its_lists).prog [38]) (H := Rk.hk) (ob := Rk.ob) (M := 6000) (loose := Rk.loose) (d := HandSHeadRun.topDef (OpenLaw.row PySem.Challenge.rw_ridesonce_k00_a_town_holds_its_lists).prog 38) (kwd := []) Rk.ob_eq
    (by kernel_rfl) (fun s => by kernel_rfl) Rk.run (by kernel_rfl) (by kernel_rfl) (by kernel_rfl) (by rfl) (by first | assumption | decide +kernel) (by decide +kernel) ⟨rfl, rfl, rfl, rfl, rfl, by decide +kernel⟩ ?hw ?hc
  case hw => w_witness2
  case hc =>
    refine L2.walk_ofE (l := PySem.Challenge.rw_ridesonce_k00_a_town_holds_its_lists) (n := 63) (k := 8) (x := "script") (CX := L2.CX0) rfl (by decide) (by kernel_rfl) ⟨rfl, by decide, by decide⟩ ?F (fun _ _ _ _ z => z)
    intro w mg fa h Y G hmg0
    obtain ⟨K, KX, c⟩ := Y
    have hmg : mg ("law" : PySem.Str) = some (.ref fa) := by
      have e : (HandSHeadRun.topDef (OpenLaw.row PySem.Challenge.rw_ridesonce_k00_a_town_holds_its_lists).prog 38).name = ("law" : PySem.Str) := by kernel_rfl
      rw [← e]
      exact hmg0
    obtain ⟨fd, hb, hF⟩ := Rk.facts (P := (PySem.Challenge.rw_ridesonce_k00_a_town_holds_its_lists).prog) (w := w) KX G hmg c
    exact ⟨K, fd, Rk.spLaw K, KX, hb, fun H a ns hl _ hS => ⟨a, ns, rfl, hS, fun _ => rfl⟩, hF⟩
