import PyProof.Rows.All
import Wide.All
import OpenK.AllK
import Wide.FinOn
import KE.KExcSuper
import KE.KExcIs
import HandS.ForMost
import HandS.Exc
import HandS.ExcOwn
import HandS.ExcValue
import HandS.ExcInit
import HandS.IsInst
import HandS.More
import HandS.Zip
import HandS.Base
import HandS.Wide
import PyProof.ReprReads
import PyProof.ReprLen
import PyProof.Rows.NestShow
import HandS.ForExc
import HandS.Strs
import PyProof.NeKinds
import HandS.ReplaceLit
import HandS.Iter
import HandS.Comp
import HandS.Text
import HandS.Conv
import HandS.Star
import HandS.TupAny
import HandS.Style
import KE.KRevSl
import HandS.EndBits
import PySem.Challenge.RW_namedmoments_k32_sayings_judged
set_option Elab.async false
set_option linter.all false
set_option maxRecDepth 100000
set_option maxHeartbeats 4000000
/-! Own exceptions as values: made without and with a field, read, asked by isinstance. -/
namespace Nm
open PySem PySem.Spec PyProof.Rows L2

/-- what the written part says of an exception class -/
structure XT (K : PySem.W.Frag) (C : Addr) : Prop where
  cl : PySem.W.isClsIn K C = true
  ga : PySem.W.findIn K (.ref C) "__getattribute__" = some (some (.builtin "BaseException.__getattribute__"))
  gt : PySem.W.findIn K (.ref C) "__getattr__" = some none
  sub : PySem.W.subIn K (.ref C) (.type "BaseException") = some true
  ca : PySem.W.findIn K (.ref C) "__class__" = some (some (.builtin "object.__class__"))
  gs : PySem.W.specialIn K (.builtin "object.__class__") "__get__" = some (some (.builtin "getset_descriptor.__get__"))
  tk : PySem.W.takesIn K (.builtin "object.__class__") = some true
  mr : PySem.W.mroIn K C (.type "object") = some true
  hd : PySem.W.hasDictIn K C = true
  kp : PySem.W.keepIn K (.ref C) = true

/-- isinstance(e, c), e a made exception -/
def rIsX (K : PySem.W.Frag) : List V → Hp → VK → Prop := fun xs H Q => ∃ (a C : Addr) (d : Option Addr) (c : V) (u : Value) (b : Bool), xs = [.ref a, c] ∧ H a = some (exo a C d) ∧
  (∀ dx, d = some dx → ∃ fs, H dx = some (exd dx fs)) ∧ XT K C ∧ ClsV c u ∧ PySem.W.kitOne K (.ref C) u = some b ∧ Q (.bl b) H
theorem exo_inst {X : Cx} {pins : List (Addr × Obj)} {σ : L2.St} {H : Hp} {s : Shared} {a C : Addr} {d : Option Addr} (I : Inv X pins σ H s) (ha : H a = some (exo a C d)) (hd : ∀ dx, d = some dx → ∃ fs, H dx = some (exd dx fs)) :
    ∃ (ox : Obj) (od : Option Obj), PySem.W.InstAt s.heap a ox C od := by
  obtain ⟨t1, ho⟩ := exo_at I.hok ha
  cases d with
  | none => exact ⟨_, none, ho, rfl, rfl, trivial⟩
  | some dx =>
    obtain ⟨fs, e⟩ := hd dx rfl
    obtain ⟨mA, hns, _⟩ := exd_at I.hok e
    obtain ⟨od, ho', _⟩ := lookIn_ns hns
    exact ⟨_, some od, ho, rfl, rfl, ho'⟩
theorem call_isX {X : Cx} : CallR X (.builtin "isinstance") (rIsX X.K) := by
  intro pins s σ H xs us Q I r h
  obtain ⟨a, C, d, c, u, b, rfl, ha, hd, T, k, e, q⟩ := h
  obtain ⟨u1, u2, rfl, r1, r2⟩ := vals2 r
  have e2 := k.eq r2
  subst e2
  obtain rfl : u1 = Value.ref a := r1
  obtain ⟨ox, od, J⟩ := exo_inst I ha hd
  exact PySem.W.kia_one (PySem.W.kitx_exc T.cl T.ga T.gt T.sub T.ca T.gs T.tk T.mr) I.kIn J e (fun z => nomatch z) fun tk => ⟨.bl b, H, I.tok tk, rfl, q⟩

/-- e.f, e a made exception that bears the field -/
def tXfd (K : PySem.W.Frag) (f : Str) (te : TE) : TE := fun σ H Q => te σ H fun x H1 => ∃ (a C dx : Addr) (fs : List (Str × V)) (v : V), x = .ref a ∧ H1 a = some (exo a C (some dx)) ∧ H1 dx = some (exd dx fs) ∧
  XT K C ∧ PySem.W.findIn K (.ref C) f = some none ∧ fs.lookup f = some v ∧ Q v H1
theorem pe_xfd {X : Cx} {e : Expr} {te : TE} {pos : Pos} {n : Str} (he : PE X e te) (hb : attributeBase e n X.env (eval e X.env) = eval e X.env := by rfl) : PE X (.Attribute e n pos) (tXfd X.K n te) := by
  refine ⟨fun pins s σ H Q I h => ?_⟩
  refine attr_of hb (thn (he.run pins s σ H _ I h) fun u s1 hh => ?_)
  obtain ⟨x, H1, I1, rx, a, C, dx, fs, v, ex, ea, ed, T, hno, l, q⟩ := hh
  subst ex
  obtain rfl : u = Value.ref a := rx
  obtain ⟨t1, ho⟩ := exo_at I1.hok ea
  obtain ⟨mA, hns, hr⟩ := exd_at I1.hok ed
  obtain ⟨od, ho', hl⟩ := lookIn_ns hns
  obtain ⟨u, hu, ru⟩ := RelO.some_of (v := v) (o := mA n) (by rw [← l]; exact hr n)
  exact HandSPX.exc_get (od := some od) I1.kIn ⟨ho, rfl, rfl, ho'⟩ T.ga T.gt T.sub (PySem.W.findObj_own T.hd hno rfl (by rw [hl, hu])) (handed_of ru) ⟨v, H1, I1.tok _, ru, q⟩

/-- C(), an own exception class without __init__ -/
theorem pe_new0 {X : Cx} {C : Addr} {bmB : List Value} {B newId initId : String} {x : Str} {p pos : Pos} (F : ExcBaseFacts B newId initId bmB) (q : PySem.W.excIn X.K C bmB newId = true) (gC : X.mg x = some (.ref C)) (kC : PySem.W.keepIn X.K (.ref C) = true) (hg : Gl X x := by rfl)
    (hdb : (x == ("__debug__" : Str)) = false := by decide) : PE X (.Call (.Name x p) [] [] pos) (fun σ H Q => ∀ a, H a = none → Q (.ref a) (upd H a (exo a C none))) := by
  refine ⟨fun pins s σ H Q I h => ?_⟩
  refine wpAny_Call_Name_kw (ld_glob I hg gC ?_ hdb)
  refine PySem.W.callWith_K0 I.kIn kC ?_
  show wpAny _ _ (call (.ref C) []) _ _ _
  obtain ⟨bm, N, nm, qn, bs, hdct, sn, sub, ab, col, dd, k0, k1, k2, k3, k5, mN, hC, hN, hni, T⟩ := exc_obj I.kIn q
  obtain ⟨hp, g, d, t, os⟩ := s
  refine wpAny_call_exc_subT F T hC hN hni (fun h' a hm => ?_) (by show 0 ≤ sizeLine; omega)
  have hn : H a = none := I.hok.gone hm.new
  obtain ⟨t1, ht, _, _⟩ := hm.there
  exact ⟨.ref a, _, I.laidN hm.keeps hm.new hn (exo_ok ht), rfl, h a hn⟩
end Nm

/-! C(v), C an own exception class whose __init__ says super().__init__(text) and keeps v in a field. -/
namespace Nm
open PySem PySem.Spec PyProof.Rows L2

def iArgs (f : Str) (p1 p2 : Pos) : Arguments := { posonlyargs := [], args := [{ arg := "self", annotation := none, pos := p1 }, { arg := f, annotation := none, pos := p2 }], vararg := none, kwonlyargs := [], kw_defaults := [], kwarg := none, defaults := [] }
def iBody (f txt : Str) (k : Nat) (a1 a2 a3 a4 a5 a6 b1 b2 b3 b4 : Pos) : List Stmt :=
  [.Expr (.Call (.Attribute (.Call (.Name "super" a1) [] [] a2) "__init__" a3) [.Constant (.str txt) k a4] [] a5) a6, .Assign [.Attribute (.Name "self" b1) f b2] (.Name f b3) b4]
def iScope (f : Str) : Scope := { kind := .function, names := [(PySem.Str.ofString "self", .local), (f, .local), (PySem.Str.ofString "__class__", .free), (PySem.Str.ofString "super", .globalImplicit)], isGenerator := false, isCoroutine := false, more := [] }
/-- the tree of super().__init__(text) -/
def ICall (txt : Str) (k : Nat) (a1 a2 a3 a4 a5 : Pos) : Prop := ∃ pl : Sem Bool, ∀ env : Env, eval (.Call (.Attribute (.Call (.Name "super" a1) [] [] a2) "__init__" a3) [.Constant (.str txt) k a4] [] a5) env = (do
  let ov ← attributeBase (.Call (.Name "super" a1) [] [] a2) "__init__" env (eval (.Call (.Name "super" a1) [] [] a2) env)
  standAt a3.atName
  let (f, first) ← holding [ov] (getMethod ov "__init__" pl)
  callWith a5 f first (backTo a5 (starEach [.Constant (.str txt) k a4] env)) [])
/-- the text of such an __init__ -/
def IShape (st : Stmt) (f txt : Str) : Prop := ∃ k p1 p2 a1 a2 a3 a4 a5 a6 b1 b2 b3 b4, defArgs st = iArgs f p1 p2 ∧ defBody st = iBody f txt k a1 a2 a3 a4 a5 a6 b1 b2 b3 b4 ∧ defScope st = iScope f ∧ ICall txt k a1 a2 a3 a4 a5
/-- a field's name is none of the others -/
structure FName (f : Str) : Prop where
  self : (f == (PySem.Str.ofString "self")) = false
  self' : ((PySem.Str.ofString "self") == f) = false
  cls : ((PySem.Str.ofString "__class__") == f) = false
  sup : ((PySem.Str.ofString "super") == f) = false
  dbg : (f == ("__debug__" : Str)) = false
  bnd : ∀ (qual : Str) (p1 p2 : Pos) (body : List Stmt) (kV doc pm : Value) (an : Option Addr) (cdv ct : Value) (cc : Addr) (u v : Value),
    bindArgs (PySem.W.ksFn "__init__" qual (iArgs f p1 p2) body (iScope f) .none kV doc pm an cdv ct cc) ⟨[u, v], []⟩ = (pure [((PySem.Str.ofString "self" : Str), u), (f, v)] : Sem (List (Str × Value)))
/-- what the written part says of the class at C, its __init__ at fI (code at cda, cell at cc) -/
structure XI (K : PySem.W.Frag) (st : Stmt) (qual : Str) (C fI cc cda : Addr) (f txt file : Str) : Prop where
  xt : XT K C
  shape : IShape st f txt
  nf : FName f
  cls : ∃ nm q N bs bm sn sub ab col dd k0 k1 k2 k3 k5, K.lookup C = some (excClassObj nm q C N bs bm true sn sub ab col dd k0 k1 k2 k3 k5 "ValueError.__new__") ∧ PySem.HandSPX.refsVE bm = true
  ini : PySem.W.excInitIn K C [.type "ValueError", .type "Exception", .type "BaseException", .type "object"] "ValueError.__new__" = true
  sa : PySem.W.findIn K (.ref C) "__setattr__" = some (some (.builtin "object.__setattr__"))
  noN : PySem.W.findIn K (.ref C) f = some none
  iC : PySem.W.findIn K (.ref C) "__init__" = some (some (.ref fI))
  tI : PySem.W.typeIn K (.ref fI) = some (.type "function")
  sup : PySem.W.ks_superIn K C C "__init__" = some (some (.builtin "ValueError.__init__"))
  subV : PySem.W.subIn K (.ref C) (.type "ValueError") = some true
  mroC : PySem.W.mroIn K C (.ref C) = some true
  opq : PySem.W.nsIn K cStatics "thirdparty.any" = some none
  cell : ∃ oc od os, K.lookup cc = some ⟨oc, od, .cell (some (.ref C)), os⟩
  code : ∃ oc od vs os tf, K.lookup cda = some ⟨oc, od, .fields vs, os⟩ ∧ vs[2]? = some (.str file tf)
  fn : ∃ (oc : Value) (od : Option Addr) (kV doc pm : Value) (an : Option Addr) (ct : Value) (osl : Array (Option Value)),
    K.lookup fI = some ⟨oc, od, .func (PySem.W.ksFn "__init__" qual (defArgs st) (defBody st) (defScope st) .none kV doc pm an (.ref cda) ct cc), osl⟩ ∧ PySem.W.codeIn K (.ref cda) qual = true
/-- what is asked of the program -/
structure PF (P : Program) (file : Str) : Prop where
  file : ((P.main.file : Str) == file) = true
  top : (P.main.scope.names.lookup ("super" : Str)).isSome = false

section
variable {P : Program} {w : World} {A : Around} {R : Result → Shared → Prop} {K : PySem.W.Frag} {mg : Str → Option Value} {st : Stmt} {qual f txt file : Str} {C fI cc cda : Addr}
theorem xinit {h₀ : Heap} {x t0 : Addr} {v : Value} {s : Shared} (T : XI K st qual C fI cc cda f txt file) (pf : PF P file) (X₀ : K.In h₀) (hgl : h₀.Ns mainGlobals mg) (hms : mg "super" = none)
    (hb : ∃ mb, h₀.Ns builtinsNs mb ∧ ∀ y : Str, y ≠ "__name__" → mb y = bootBuiltins y) (keep : ∀ b o, h₀.get? b = some o → s.heap.get? b = some o) (hlim : s.heap.NoLimit)
    (hx : s.heap.get? x = some (HandSPX.excO C t0)) (hx0 : h₀.get? x = none) (hsz : h₀.objs.size ≤ s.heap.objs.size) (hroom : A.depth < recursionLimit)
    (hq : ∀ h' tk t1 dx, (∀ b o, h₀.get? b = some o → h'.get? b = some o) → h₀.objs.size ≤ dx → dx ≠ x → h'.get? x = some { cls := .ref C, dict := some dx, data := .fields #[.ref t1, .none, .none, .none, .bool false, .none] } →
      h'.Ns1 dx (fun y => if y = f then some v else none) → R (.ok (.ret .none)) { s with heap := h', toks := tk }) :
    codeAny (model P w) A (.call (.ref fI) ⟨[.ref x, v], []⟩) R s := by
  obtain ⟨oc, od, kV, doc, pm, an, ct, osl, ho, hcd⟩ := T.fn
  obtain ⟨k, p1, p2, a1, a2, a3, a4, a5, a6, b1, b2, b3, b4, eA, eB, eS, pl, hpl⟩ := T.shape
  rw [eA, eB, eS] at ho
  obtain ⟨nm, q, N, bs, bm, sn, sub, ab, col, dd, k0, k1, k2, k3, k5, hC, hbm⟩ := T.cls
  have hcl : PySem.W.clsIn K C = some { name := nm, bases := bs, mro := .ref C :: bm, ns := N, qualname := q, hasDict := true, slotNames := sn, subclasses := sub, abstract := ab, collection := col, hasDel := false } := by unfold PySem.W.clsIn; rw [hC] <;> rfl
  obtain ⟨cl, cld, csl, hcell⟩ := T.cell
  obtain ⟨ccl, cdd, vs, ccs, tf, hcode, hvs⟩ := T.code
  obtain ⟨mb, hbn, hbb⟩ := hb
  have nf := T.nf
  have X : K.In s.heap := X₀.keeps keep
  have lf : List.lookup f (iScope f).names = some NameKind.local := by
    have := nf.self
    simp [iScope, List.lookup, this]
  have ls : List.lookup (PySem.Str.ofString "self") (iScope f).names = some NameKind.local := by rfl
  have lc : List.lookup (PySem.Str.ofString "__class__") (iScope f).names = some NameKind.free := by
    have h1 : (PySem.Str.ofString "__class__" == PySem.Str.ofString "self") = false := by decide +kernel
    simp only [iScope, List.lookup, h1, nf.cls, beq_self_eq_true]
  have lp : List.lookup (PySem.Str.ofString "super") (iScope f).names = some NameKind.globalImplicit := by
    have h1 : (PySem.Str.ofString "super" == PySem.Str.ofString "self") = false := by decide +kernel
    have h2 : (PySem.Str.ofString "super" == PySem.Str.ofString "__class__") = false := by decide +kernel
    simp only [iScope, List.lookup, h1, h2, nf.sup, beq_self_eq_true]
  refine ks_codeAny_call_defAt (fd := PySem.W.ksFn "__init__" qual (iArgs f p1 p2) (iBody f txt k a1 a2 a3 a4 a5 a6 b1 b2 b3 b4) (iScope f) .none kV doc pm an (.ref cda) ct cc) (body := iBody f txt k a1 a2 a3 a4 a5 a6 b1 b2 b3 b4) (binds := [("self", .ref x), (f, v)])
    hroom (X _ _ ho) rfl hlim (PySem.W.codeRec_of X hcd) rfl (BindsTo.of_eq (nf.bnd _ _ _ _ _ _ _ _ _ _ _ _ _)) ?hcell ?hloc (fun h₁ hns hk => ?_) rfl rfl rfl
  case hcell =>
    intro y hy
    simp [iScope] at hy
    rcases hy with rfl | rfl | rfl | rfl <;> simp
  case hloc =>
    intro y hy
    simp at hy
    rcases hy with rfl | rfl
    · rfl
    · exact lf
  have X₁ : K.In h₁ := X.keeps hk
  have keep₁ : ∀ b o, h₀.get? b = some o → h₁.get? b = some o := fun b o e => hk b o (keep b o e)
  have hx₁ := hk _ _ hx
  have hsub : PySem.W.Looks (model P w) h₁ (isSubtype (.ref C) (.ref C)) true := PySem.W.looks_mroIn X₁ T.mroC
  -- super().__init__(text)
  refine ks_wpAt_execs_cons (ks_wpAt_Expr_any (ks_wpAt_MethodCall (pl := pl) (ks_wpAt_super_base (f := fI) (cc := cda) (vs := vs) (file := file) (tf := tf) (ar := { arg := "self", annotation := none, pos := p1 }) lp lc (by decide) rfl (X₁ _ _ ho) rfl rfl rfl (X₁ _ _ hcode) rfl hvs pf.file pf.top ?_) (hpl _)))
  refine PySem.W.ks_loadName_global ?ka ?kb ?_
  case ka => exact rfl
  case kb => exact lp
  refine Calls.loadGlobal_builtin (mg := mg) (mb := mb) (v := .type "super") ?ga hms ?gb ((hbb _ (by decide)).trans ?bs) ?_
  case ga => exact hgl.keeps keep₁
  case gb => exact hbn.keeps keep₁
  case bs => first | rfl | decide +kernel
  refine ⟨rfl, ?_⟩
  refine wpAny_loadName_free (c := cc) (v := .ref C) ?fa ?fb ?fc ?fd ?_
  case fa => exact rfl
  case fb => exact lc
  case fc => exact rfl
  case fd => exact ⟨_, X₁ _ _ hcell, rfl⟩
  have hself : List.lookup (PySem.Str.ofString "self") ([(PySem.Str.ofString "self", Value.ref x), (f, v)] : List (Str × Value)).reverse = some (.ref x) := by
    simp only [List.reverse_cons, List.reverse_nil, List.nil_append, List.cons_append, List.lookup, nf.self', beq_self_eq_true]
  have hval : List.lookup f ([(PySem.Str.ofString "self", Value.ref x), (f, v)] : List (Str × Value)).reverse = some v := by
    simp only [List.reverse_cons, List.reverse_nil, List.nil_append, List.cons_append, List.lookup, beq_self_eq_true]
  refine wpAny_loadName_local (v := .ref x) ?la ?lb hns hself ?_
  case la => exact rfl
  case lb => exact ls
  refine ks_wpAny_isType_cls (X₁ _ _ hC) rfl ⟨rfl, ?_⟩
  refine ks_wpAny_call_super (X₁ _ _ hC) rfl hx₁ rfl (fun c e => nomatch e) hsub (fun h₂ e₂ k₂ => ?_)
  have X₂ : K.In h₂ := X₁.keeps k₂
  have I₂ : PySem.W.InstAt h₂ x (HandSPX.excO C t0) C none := ⟨k₂ _ _ hx₁, rfl, rfl, trivial⟩
  refine PySem.W.kxs_getMethod PySem.W.kxs_ValueError e₂ (PySem.W.looks_opaque X₂ T.opq) (l₀ := .ref C :: bm) ?m1 rfl X₂ ?m2 ?m3 ?m4 (by decide) ?_
  case m1 => exact fun A Q E s k q => wpAny_bind ((PySem.W.looks_clsIn X₂ hcl) A _ E s k (wpAny_pure q))
  case m2 =>
    have e := T.sup
    unfold PySem.W.ks_superIn at e
    rw [hcl] at e
    exact e
  case m3 => exact I₂.type.andThen (PySem.W.looks_subIn X₂ T.subV)
  case m4 => exact PySem.W.ks_ne X₂ I₂ hcl
  -- the ledger: the wrapper, the exception
  have F₀ : PyProof.Rows.Fr h₀ s.heap.objs.size h₂ (fun y => List.lookup y ([(PySem.Str.ofString "self", Value.ref x), (f, v)] : List (Str × Value)).reverse) := ⟨hns.keeps k₂, fun b o e => k₂ b o (keep₁ b o e), hsz⟩
  have xL : x ≠ s.heap.objs.size := Nat.ne_of_lt (Heap.lt_size hx)
  have N₀ : PyProof.Rows.News h₀ s.heap.objs.size h₂ [(x, PySem.W.excObj C t0 none .none)] := by
    intro p hp
    obtain rfl : p = (x, PySem.W.excObj C t0 none .none) := List.mem_singleton.mp hp
    exact ⟨k₂ _ _ hx₁, xL, hx0⟩
  obtain ⟨F₃, N₃, l₃⟩ := PySem.W.ks_newsPush (s := ⟨h₂, s.gens, s.drawn, s.toks, s.os⟩) (h' := h₂.push (PySem.W.kxs_mw "ValueError.__init__" x)) (o := PySem.W.kxs_mw "ValueError.__init__" x) F₀ N₀ rfl (Heap.get?_push_at rfl rfl) (fun b o e => Heap.get?_push_of_some _ e)
  have nu : h₂.objs.size ≠ x := Nat.ne_of_gt (Heap.lt_size (k₂ _ _ hx₁))
  refine PySem.W.kxs_callWith1 N₃ List.mem_cons_self ?_
  show wpAny _ _ (spliced ((false, eval (.Constant (.str txt) k a4) _) :: [])) _ _ _
  refine Calls.spliced_cons (Calls.Constant_str (Calls.spliced_nil ⟨PySem.W.kxs_at N₃ List.mem_cons_self, ?_⟩))
  have FB := PySem.F.excBase_ValueError
  refine PySem.W.kxs_call (m := fun y => List.lookup y ([(PySem.Str.ofString "self", Value.ref x), (f, v)] : List (Str × Value)).reverse) F₃ X₀ N₃ FB T.ini List.mem_cons_self
    (PySem.W.UpdF.tail nu (PySem.W.UpdF.head (fun p hp => nomatch hp))) (by show 1 ≤ sizeLine; rw [sizeLine_eq]; decide) (fun t' h₄ F₄ N₄ l₄ => ?_)
  have X₄ : K.In h₄ := X₀.keeps F₄.keep
  have hx₄ : h₄.get? x = some (HandSPX.excO C t') := (N₄ (x, PySem.W.excObj C t' none .none) (by simp)).1
  -- self.f = f
  show PySem.wpAt _ _ _ (execs _ _) _ _ _
  refine wpAt_of_wpAny (wpAny_execs_cons (plainObj_wpAny_Assign_Attribute ?_))
  refine wpAny_Name (wpAny_loadName_local ?na ?nb F₄.ns hval ?_) nf.dbg
  case na => exact rfl
  case nb => exact lf
  refine wpAny_Name (wpAny_loadName_local ?oa ?ob F₄.ns hself ?_) (by decide)
  case oa => exact rfl
  case ob => exact ls
  refine PySem.W.set_plain X₄ (ox := HandSPX.excO C t') (od := none) ⟨hx₄, rfl, rfl, trivial⟩ T.sa ?_
  refine HandSPX.exc_osa X₄ hx₄ hcl (show HandSPX.refsVE (.ref C :: bm) = true from hbm) rfl T.noN (fun h₅ tk₅ dx k₅ dn dne hx₅ hn₅ => ?_)
  show wpAny _ _ (execs _ _) _ _ _
  have hle : h₀.objs.size ≤ dx := by
    have q : s.heap.objs.size < h₄.objs.size := F₄.ns.lt
    have dn' : h₄.objs.size ≤ dx := dn
    omega
  exact wpAny_execs_nil (hq h₅ tk₅ t' dx (fun b o e => k₅ b o (fun z => by rw [z, hx0] at e; cases e) (F₄.keep b o e)) hle dne hx₅ hn₅)

end
/-- C(v): a new exception with its own new dict that bears the field -/
def tNewF (C : Addr) (f : Str) (ta : TA) : TE := fun σ H Q => ta σ H fun vs H1 => ∃ v, vs = [v] ∧ ∀ a d, H1 a = none → H1 d = none → a ≠ d → Q (.ref a) (upd (upd H1 a (exo a C (some d))) d (exd d [(f, v)]))
theorem relO_one {f : Str} {v : V} {u : Value} (r : RelV v u) (g : Str) : RelO (([(f, v)] : List (Str × V)).lookup g) (if g = f then some u else none) := relO_put (fs := []) (mA := fun _ => none) r (fun _ => True.intro) g
theorem pe_newF {X : Cx} {st : Stmt} {qual f txt file x : Str} {C fI cc cda : Addr} {a : Expr} {ta : TA} {p pos : Pos} (T : XI X.K st qual C fI cc cda f txt file) (pf : PF X.prog file) (hms : X.mg "super" = none) {k : Nat} (hr : Room k X.A) (gC : X.mg x = some (.ref C)) (ha : PA X [a] ta) (hg : Gl X x := by rfl)
    (hdb : (x == ("__debug__" : Str)) = false := by decide) (he : starEach (a :: []) X.env = (false, eval a X.env) :: starEach [] X.env := by rfl) (hpl : (backTo pos (starEach [] X.env)).any (·.1) = false := by rfl) :
    PE X (.Call (.Name x p) [a] [] pos) (tNewF C f ta) := by
  refine ⟨fun pins s σ H Q I h => ?_⟩
  obtain ⟨nm, q, N, bs, bm, sn, sub, ab, col, dd, k0, k1, k2, k3, k5, hC, hbm⟩ := T.cls
  refine wpAny_Call_Name_kw (ld_glob I hg gC ?_ hdb)
  refine PySem.W.callWith_K (h₀ := X.base) I.ok.mod.kin T.xt.kp (thn (ha.run pos pins s σ H _ I h) fun us s1 hh => ?_) he hpl
  obtain ⟨vs, H1, I1, r1, v, ev, q1⟩ := hh
  subst ev
  refine ⟨I1.kIn, ?_⟩
  cases r1 with
  | cons rv rn =>
    rename_i v' us'
    cases rn
    show wpAny _ _ (call (.ref C) [v']) _ _ _
    have hlim := I1.nolimit
    have hK := I1.kIn
    have hgl : s1.heap.Ns mainGlobals X.mg := I1.mod.glob.keeps I1.bk
    have hbl : ∃ mb, s1.heap.Ns builtinsNs mb ∧ ∀ y : Str, y ≠ "__name__" → mb y = bootBuiltins y := by
      obtain ⟨mb, h1, h2⟩ := I1.mod.blt
      exact ⟨mb, h1.keeps I1.bk, h2⟩
    obtain ⟨hp, g, dr, tk, os⟩ := s1
    have kk : ∀ b o, hp.get? b = some o → ((hp.push (PySem.W.kdv_tup [v'])).push (HandSPX.excO C hp.objs.size)).get? b = some o := fun b o e => Heap.get?_push_of_some _ (Heap.get?_push_of_some _ e)
    have hget : ((hp.push (PySem.W.kdv_tup [v'])).push (HandSPX.excO C hp.objs.size)).get? (hp.objs.size + 1) = some (HandSPX.excO C hp.objs.size) := by heap_get
    have hnew : hp.get? (hp.objs.size + 1) = none := Heap.get?_none_of_le (Nat.le_succ _)
    refine wpAny_call (HandSPX.call_own F.excBase_ValueError (fun Y => HandSPX.refsVE_contains Y bm hbm) (hK _ _ hC) (PySem.W.looks_findIn hK T.iC) (fun self => PySem.W.bind_fn hK self T.tI) (by show 1 ≤ sizeLine; rw [sizeLine_eq]; decide) ?_)
    refine xinit (h₀ := hp) (mg := X.mg) T pf hK hgl hms hbl kk (hlim.keeps kk) hget hnew (by rw [Heap.size_push, Heap.size_push]; omega) ?_ (fun h' tk' t1 dx k' dn dne hx hns => ?_)
    · show X.A.depth + 1 < recursionLimit
      have := hr.dp
      omega
    refine ⟨rfl, ?_⟩
    show EP X pins σ Q (.ref (hp.objs.size + 1)) ⟨h', g, dr, tk', os⟩
    obtain ⟨G, g1, g2⟩ := restrict h' fun b => decide (b ≠ dx)
    have gk : ∀ b, b ≠ dx → G.get? b = h'.get? b := fun b hb => g1 b (decide_eq_true hb)
    have gd : G.get? dx = none := g2 dx (by simp)
    have old : ∀ b o, hp.get? b = some o → G.get? b = some o := fun b o e => (gk b (Nat.ne_of_lt (Nat.lt_of_lt_of_le (Heap.lt_size e) dn))).trans (k' b o e)
    have nd : H1 dx = none := I1.hok.fresh dn
    have na : H1 (hp.objs.size + 1) = none := I1.hok.fresh (Nat.le_succ _)
    have J1 : Inv X pins σ (upd H1 (hp.objs.size + 1) (exo (hp.objs.size + 1) C (some dx))) ⟨G, g, dr, tk', os⟩ := I1.laid (t' := tk') old (Nat.le_succ _) (exo_ok ((gk _ dne.symm).trans hx))
    have J2 : Inv X pins σ (upd (upd H1 (hp.objs.size + 1) (exo (hp.objs.size + 1) C (some dx))) dx (exd dx [(f, v)])) ⟨h', g, dr, tk', os⟩ := J1.laidN (t' := tk') (fun b u e => by
      by_cases hb : b = dx
      · have e' : G.get? b = some u := e
        rw [hb, gd] at e'
        cases e'
      · exact (gk b hb).symm.trans e) gd (by rw [upd_ne dne]; exact nd) (exd_ok hns (relO_one rv))
    exact ⟨.ref (hp.objs.size + 1), _, J2, rfl, q1 _ dx na nd dne.symm⟩
end Nm

/-! Plain data in the heap, kept under what changes elsewhere; the law's own sameness of data. -/
namespace Nm
open PySem PySem.Spec PyProof.Rows L2

/-! ### data whose places all lie in S -/
mutual
inductive DS (S : Addr → Prop) (H : Hp) : V → PyData → Prop
  | non : DS S H .non .none
  | bl (b : Bool) : DS S H (.bl b) (.bool b)
  | int (i : Int) : DS S H (.int i) (.int i)
  | str (x : Str) : DS S H (.str x) (.str x)
  | lst {a : Addr} {xs : List V} {ds : List PyData} : S a → H a = some (.lst xs) → DSs S H xs ds → DS S H (.ref a) (.list ds)
  | tup {a : Addr} {xs : List V} {ds : List PyData} : S a → H a = some (.tup xs) → DSs S H xs ds → DS S H (.ref a) (.tuple ds)
inductive DSs (S : Addr → Prop) (H : Hp) : List V → List PyData → Prop
  | nil : DSs S H [] []
  | cons {v : V} {vs : List V} {d : PyData} {ds : List PyData} : DS S H v d → DSs S H vs ds → DSs S H (v :: vs) (d :: ds)
end
section
variable {S S' : Addr → Prop} {H H' : Hp}
mutual
theorem DS.keep (k : ∀ a o, S a → H a = some o → S' a ∧ H' a = some o) : ∀ {v : V} {d : PyData}, DS S H v d → DS S' H' v d
  | _, _, .non => .non
  | _, _, .bl b => .bl b
  | _, _, .int i => .int i
  | _, _, .str x => .str x
  | _, _, .lst s h r => .lst (k _ _ s h).1 (k _ _ s h).2 (DSs.keep k r)
  | _, _, .tup s h r => .tup (k _ _ s h).1 (k _ _ s h).2 (DSs.keep k r)
theorem DSs.keep (k : ∀ a o, S a → H a = some o → S' a ∧ H' a = some o) : ∀ {vs : List V} {ds : List PyData}, DSs S H vs ds → DSs S' H' vs ds
  | _, _, .nil => .nil
  | _, _, .cons x r => .cons (DS.keep k x) (DSs.keep k r)
end
mutual
theorem DS.dp {K : PySem.W.Frag} : ∀ {v : V} {d : PyData}, DS S H v d → Dp K H v d
  | _, _, .non => .non
  | _, _, .bl b => .bl b
  | _, _, .int i => .int i
  | _, _, .str x => .str x
  | _, _, .lst s h r => .lst (SqL.of h) (DSs.dp r)
  | _, _, .tup s h r => .tup (SqT.of h) (DSs.dp r)
theorem DSs.dp {K : PySem.W.Frag} : ∀ {vs : List V} {ds : List PyData}, DSs S H vs ds → DpAll K H vs ds
  | _, _, .nil => .nil
  | _, _, .cons x r => .cons (DS.dp x) (DSs.dp r)
end
end
theorem Same.seqT {K : PySem.W.Frag} {H H' : Hp} {a : Addr} {xs : List V} (e : Same H H') (h : SqT K H a xs) : SqT K H' a xs := by
  rcases h with (h | ⟨o, h⟩) | h
  · exact .inl (.inl (e _ _ h))
  · exact .inl (.inr ⟨o, e _ _ h⟩)
  · exact .inr h
mutual
theorem Dp.same {K : PySem.W.Frag} {H H' : Hp} (e : Same H H') : ∀ {v : V} {d : PyData}, Dp K H v d → Dp K H' v d
  | _, _, .non => .non
  | _, _, .bl b => .bl b
  | _, _, .int i => .int i
  | _, _, .str x => .str x
  | _, _, .lst h r => .lst (e.seq h) (DpAll.same e r)
  | _, _, .tup h r => .tup (Nm.Same.seqT e h) (DpAll.same e r)
theorem DpAll.same {K : PySem.W.Frag} {H H' : Hp} (e : Same H H') : ∀ {vs : List V} {ds : List PyData}, DpAll K H vs ds → DpAll K H' vs ds
  | _, _, .nil => .nil
  | _, _, .cons x r => .cons (Dp.same e x) (DpAll.same e r)
end

/-! ### the law's own sameness -/
def isT : PyData → Bool | .tuple _ => true | _ => false
def isL : PyData → Bool | .list _ => true | _ => false
def isB : PyData → Bool | .bool _ => true | _ => false
mutual
def isD : PyData → PyData → Bool
  | .tuple xs, .tuple ys => isDs xs ys
  | .list xs, .list ys => isDs xs ys
  | _, .tuple _ => false
  | _, .list _ => false
  | x, y => (isB x == isB y) && PyData.eqv x y
def isDs : List PyData → List PyData → Bool
  | [], [] => true
  | x :: xs, y :: ys => isD x y && isDs xs ys
  | _, _ => false
end
theorem sh_all : ∀ {xs : List PyData}, PyData.canLayAll0 xs = true → PyData.depthAll xs ≤ 64 → ∀ d ∈ xs, SeqAt.shaped d = true
  | [], _, _, d, h => nomatch h
  | x :: xs, h1, h2, d, h => by
    have h1' : (PyData.canLay0 x && PyData.canLayAll0 xs) = true := h1
    obtain ⟨a, b⟩ := Bool.and_eq_true_iff.mp h1'
    have h2' : max (PyData.depth x) (PyData.depthAll xs) ≤ 64 := h2
    rcases List.mem_cons.mp h with rfl | h
    · unfold SeqAt.shaped
      rw [a, Bool.true_and]
      exact decide_eq_true (by omega)
    · exact sh_all b (by omega) d h
theorem sh_list {xs : List PyData} (h : SeqAt.shaped (.list xs) = true) : ∀ d ∈ xs, SeqAt.shaped d = true := by
  obtain ⟨a, b⟩ := Bool.and_eq_true_iff.mp h
  have b' : PyData.depthAll xs + 1 ≤ 64 := of_decide_eq_true b
  exact sh_all a (by omega)
theorem sh_tup {xs : List PyData} (h : SeqAt.shaped (.tuple xs) = true) : ∀ d ∈ xs, SeqAt.shaped d = true := by
  obtain ⟨a, b⟩ := Bool.and_eq_true_iff.mp h
  have b' : PyData.depthAll xs + 1 ≤ 64 := of_decide_eq_true b
  exact sh_all a (by omega)
mutual
theorem isD_refl : ∀ {d : PyData}, SeqAt.shaped d = true → isD d d = true
  | .none, _ => rfl
  | .bool b, _ => by cases b <;> rfl
  | .int i, _ => by show (true && (i == i)) = true; simp
  | .str x, _ => by show (true && (x == x)) = true; simp
  | .list xs, h => isDs_refl (xs := xs) (sh_list h)
  | .tuple xs, h => isDs_refl (xs := xs) (sh_tup h)
  | .dict _, h => absurd h (by simp [SeqAt.shaped, PyData.canLay0])
theorem isDs_refl : ∀ {xs : List PyData}, (∀ d ∈ xs, SeqAt.shaped d = true) → isDs xs xs = true
  | [], _ => rfl
  | x :: xs, h => by
    show (isD x x && isDs xs xs) = true
    rw [isD_refl (h x List.mem_cons_self), isDs_refl fun d hd => h d (List.mem_cons_of_mem _ hd)]
    rfl
end
def tyN : PyData → String
  | .none => "NoneType" | .bool _ => "bool" | .int _ => "int" | .str _ => "str" | .list _ => "list" | .tuple _ => "tuple" | .dict _ => "dict"
theorem dp_ty {K : PySem.W.Frag} {H : Hp} {x : V} {d : PyData} (h : Dp K H x d) : TyX K H x (.type (tyN d)) := by
  cases h with
  | non => exact .base .non
  | bl b => exact .base (.bl b)
  | int i => exact .base (.int i)
  | str x => exact .base (.str x)
  | lst h _ =>
    rcases h with (h | ⟨o, h⟩) | ⟨o, its, n, h1, h2, _⟩
    · exact .base (.lst h)
    · exact .base (.frz h)
    · exact .kList h1 h2
  | tup h _ =>
    rcases h with (h | ⟨o, h⟩) | ⟨o, its, n, h1, h2, _⟩
    · exact .base (.tup h)
    · exact .fTuple h
    · exact .kTuple h1 h2
theorem kit_t {K : PySem.W.Frag} (d : PyData) : PySem.W.kitOne K (.type (tyN d)) (.type "tuple") = some (isT d) := by
  cases d
  · exact kit_ty (show kitB "NoneType" "tuple" = some false by decide +kernel)
  · exact kit_ty (show kitB "bool" "tuple" = some false by decide +kernel)
  · exact kit_ty (show kitB "int" "tuple" = some false by decide +kernel)
  · exact kit_ty (show kitB "str" "tuple" = some false by decide +kernel)
  · exact kit_ty (show kitB "list" "tuple" = some false by decide +kernel)
  · exact kit_ty (show kitB "tuple" "tuple" = some true by decide +kernel)
  · exact kit_ty (show kitB "dict" "tuple" = some false by decide +kernel)
theorem kit_l {K : PySem.W.Frag} (d : PyData) : PySem.W.kitOne K (.type (tyN d)) (.type "list") = some (isL d) := by
  cases d
  · exact kit_ty (show kitB "NoneType" "list" = some false by decide +kernel)
  · exact kit_ty (show kitB "bool" "list" = some false by decide +kernel)
  · exact kit_ty (show kitB "int" "list" = some false by decide +kernel)
  · exact kit_ty (show kitB "str" "list" = some false by decide +kernel)
  · exact kit_ty (show kitB "list" "list" = some true by decide +kernel)
  · exact kit_ty (show kitB "tuple" "list" = some false by decide +kernel)
  · exact kit_ty (show kitB "dict" "list" = some false by decide +kernel)
theorem kit_b {K : PySem.W.Frag} (d : PyData) : PySem.W.kitOne K (.type (tyN d)) (.type "bool") = some (isB d) := by
  cases d
  · exact kit_ty (show kitB "NoneType" "bool" = some false by decide +kernel)
  · exact kit_ty (show kitB "bool" "bool" = some true by decide +kernel)
  · exact kit_ty (show kitB "int" "bool" = some false by decide +kernel)
  · exact kit_ty (show kitB "str" "bool" = some false by decide +kernel)
  · exact kit_ty (show kitB "list" "bool" = some false by decide +kernel)
  · exact kit_ty (show kitB "tuple" "bool" = some false by decide +kernel)
  · exact kit_ty (show kitB "dict" "bool" = some false by decide +kernel)
theorem kit_tl {K : PySem.W.Frag} (d : PyData) : PySem.W.kitAny K (.type (tyN d)) [.type "tuple", .type "list"] = some (isT d || isL d) := by
  refine kitAny_cons (kit_t d) (fun h => ?_) (fun h => by rw [h, Bool.true_or])
  rw [h, Bool.false_or]
  refine kitAny_cons (kit_l d) (fun h => ?_) (fun h => h)
  rw [h]
  exact kitAny_nil

/-! ### a comprehension over zip of two lists, of two tuples, of one length -/
theorem lc_zip {J : It} {xs ys : List V} {A : Hp → Prop} {g : TG} {tt : TT} {te : TE} {vs : List Nat} {σ : L2.St} {H1 : Hp} {D : Addr} {Qd : Hp → Prop} (hl : xs.length = ys.length)
    (go : ∀ i H, A H → i < xs.length → J.go i H) (yl : ∀ i H v H', A H → J.yld i H v H' → ∃ T x y, v = .ref T ∧ H T = none ∧ H' = upd H T (.tup [x, y]) ∧ xs[i]? = some x ∧ ys[i]? = some y) (st : ∀ H, A H → J.stop xs.length H)
    (Pv : Nat → Hp → Prop) (h0 : Pv 0 (upd H1 D (.lst []))) (hq : ∀ i H, Pv i H → A H)
    (hs : ∀ (i : Nat) (x y : V) (T : Addr) (H : Hp), xs[i]? = some x → ys[i]? = some y → Pv i H → H T = none → g (.ref T) (wipe σ vs) (upd H T (.tup [x, y])) fun σ2 H2 => wipe σ2 vs = wipe σ vs ∧ tt σ2 H2 fun b H3 =>
      if b = true then te σ2 H3 fun y H4 => ∃ acc, H4 D = some (.lst acc) ∧ acc.length < sizeLine ∧ Pv (i + 1) (upd H4 D (.lst (acc ++ [y]))) else Pv (i + 1) H3) (hd : ∀ H, Pv xs.length H → Qd H) :
    ∃ W : Nat → Nat → Hp → Prop, (∃ m, W 0 m (upd H1 D (.lst []))) ∧ ∀ i m H, W i m H →
      (J.stop i H ∧ Qd H) ∨ (J.go i H ∧ ∃ Nx : Hp → Prop, (∀ H', Nx H' → ∃ m', m' < m ∧ W (i + 1) m' H') ∧ ∀ x H', J.yld i H x H' → g x (wipe σ vs) H' fun σ2 H2 => wipe σ2 vs = wipe σ vs ∧ tt σ2 H2 fun b H3 =>
        if b = true then te σ2 H3 fun y H4 => ∃ acc, H4 D = some (.lst acc) ∧ acc.length < sizeLine ∧ Nx (upd H4 D (.lst (acc ++ [y]))) else Nx H3) := by
  refine ⟨fun i m H => m = xs.length - i ∧ i ≤ xs.length ∧ Pv i H, ⟨xs.length, rfl, Nat.zero_le _, h0⟩, ?_⟩
  rintro i m H ⟨rfl, hi, p⟩
  by_cases hlt : i < xs.length
  · refine .inr ⟨go i H (hq i H p) hlt, Pv (i + 1), fun H' p' => ⟨xs.length - (i + 1), by omega, rfl, hlt, p'⟩, fun v H' y => ?_⟩
    obtain ⟨T, x', y', rfl, hT, rfl, f1, f2⟩ := yl i H v H' (hq i H p) y
    exact hs i x' y' T H f1 f2 p hT
  · have e : i = xs.length := by omega
    subst e
    exact .inl ⟨st H (hq _ H p), hd H p⟩
/-! no sequence within is long -/
mutual
def smallD : PyData → Bool
  | .tuple xs => decide (xs.length ≤ 100000) && smallDs xs
  | .list xs => decide (xs.length ≤ 100000) && smallDs xs
  | _ => true
def smallDs : List PyData → Bool
  | [] => true
  | x :: xs => smallD x && smallDs xs
end
theorem smallDs_all : ∀ {xs : List PyData}, smallDs xs = true → ∀ d ∈ xs, smallD d = true
  | [], _, d, h => nomatch h
  | x :: xs, h1, d, h => by
    obtain ⟨a, b⟩ := Bool.and_eq_true_iff.mp (show (smallD x && smallDs xs) = true from h1)
    rcases List.mem_cons.mp h with rfl | h
    · exact a
    · exact smallDs_all b d h
theorem smallT {xs : List PyData} (h : smallD (.tuple xs) = true) : xs.length ≤ 100000 ∧ ∀ d ∈ xs, smallD d = true := by
  obtain ⟨a, b⟩ := Bool.and_eq_true_iff.mp (show (decide (xs.length ≤ 100000) && smallDs xs) = true from h)
  exact ⟨of_decide_eq_true a, smallDs_all b⟩
theorem smallL {xs : List PyData} (h : smallD (.list xs) = true) : xs.length ≤ 100000 ∧ ∀ d ∈ xs, smallD d = true := by
  obtain ⟨a, b⟩ := Bool.and_eq_true_iff.mp (show (decide (xs.length ≤ 100000) && smallDs xs) = true from h)
  exact ⟨of_decide_eq_true a, smallDs_all b⟩
theorem isD_flat {d e : PyData} (h : ¬ (isT e || isL e) = true) : isD d e = ((isB d == isB e) && PyData.eqv d e) := by
  cases d <;> cases e <;> first | rfl | exact absurd rfl h
theorem isD_ne {d e : PyData} (h : (isT e || isL e) = true) (n : isT d ≠ isT e ∨ isL d ≠ isL e) : isD d e = false := by
  cases d <;> cases e <;> first | rfl | exact absurd (show false = true from h) Bool.false_ne_true | (rcases n with n | n <;> exact absurd rfl n)
theorem isD_kinds {d e : PyData} (h : (isT e || isL e) = true) (h1 : isT d = isT e) (h2 : isL d = isL e) : (∃ xs ys, d = .tuple xs ∧ e = .tuple ys) ∨ ∃ xs ys, d = .list xs ∧ e = .list ys := by
  cases d <;> cases e <;> first
    | exact .inl ⟨_, _, rfl, rfl⟩ | exact .inr ⟨_, _, rfl, rfl⟩ | exact absurd (show false = true from h) Bool.false_ne_true
    | exact absurd (show false = true from h1) Bool.false_ne_true | exact absurd (show true = false from h1).symm Bool.false_ne_true
    | exact absurd (show false = true from h2) Bool.false_ne_true | exact absurd (show true = false from h2).symm Bool.false_ne_true
theorem isDs_zip : ∀ {xs ys : List PyData}, xs.length = ys.length → (List.zipWith isD xs ys).all id = isDs xs ys
  | [], [], _ => rfl
  | [], _ :: _, h => by cases h
  | _ :: _, [], h => by cases h
  | x :: xs, y :: ys, h => by
    show (isD x y && (List.zipWith isD xs ys).all id) = (isD x y && isDs xs ys)
    rw [isDs_zip (by simpa using h)]
theorem isDs_len : ∀ {xs ys : List PyData}, xs.length ≠ ys.length → isDs xs ys = false
  | [], [], h => absurd rfl h
  | [], _ :: _, _ => rfl
  | _ :: _, [], _ => rfl
  | x :: xs, y :: ys, h => by
    show (isD x y && isDs xs ys) = false
    rw [isDs_len (xs := xs) (ys := ys) (by simpa using h), Bool.and_false]
theorem dpAll_len {K : PySem.W.Frag} {H : Hp} : ∀ {xs : List V} {ds : List PyData}, DpAll K H xs ds → xs.length = ds.length
  | _, _, .nil => rfl
  | _, _, .cons _ r => by rw [List.length_cons, List.length_cons, dpAll_len r]
theorem dpAll_at {K : PySem.W.Frag} {H : Hp} : ∀ {xs : List V} {ds : List PyData} {i : Nat} {x : V}, DpAll K H xs ds → xs[i]? = some x → ∃ d, ds[i]? = some d ∧ Dp K H x d
  | _, _, _, _, .nil, h => by simp at h
  | _, _, 0, _, .cons r _, h => by
    obtain rfl := Option.some.inj h
    exact ⟨_, rfl, r⟩
  | _, _, i + 1, _, .cons _ r, h => by
    obtain ⟨d, h1, h2⟩ := dpAll_at (i := i) r (by simpa using h)
    exact ⟨d, by simpa using h1, h2⟩
theorem depth_at : ∀ {ds : List PyData} {i : Nat} {d : PyData}, ds[i]? = some d → d.depth ≤ PyData.depthAll ds
  | [], _, _, h => by simp at h
  | x :: r, 0, _, h => by
    obtain rfl := Option.some.inj h
    show _ ≤ max _ _
    omega
  | x :: r, i + 1, d, h => by
    have := depth_at (ds := r) (i := i) (d := d) (by simpa using h)
    show _ ≤ max _ _
    omega
end Nm

/-! A statement, then what is known behind it, then the rest: the rest is read once, whatever ways the statement has. -/
namespace Nm
open PySem PySem.Spec PyProof.Rows L2
def tCut (t u : TS) : TS := fun D σ H => ∃ Pv : L2.St → Hp → Prop, t { D with nx := Pv } σ H ∧ ∀ σ' H', Pv σ' H' → u D σ' H'
theorem pss_cut {X : Cx} {st : Stmt} {rest : List Stmt} {t u : TS} (h1 : PS X st t) (h2 : PSs X rest u) : PSs X (st :: rest) (tCut t u) := by
  refine ⟨fun pins s σ H D I h => ?_⟩
  obtain ⟨Pv, h, k⟩ := h
  refine wpAny_execs_cons (thn (h1.run pins s σ H { D with nx := Pv } I h) fun f s1 q => ?_)
  cases f with
  | next =>
    obtain ⟨σ', H', I', q⟩ := q
    exact h2.run pins s1 σ' H' D I' (k _ _ q)
  | ret v => exact q
  | brk => exact q
  | cont => exact q
end Nm

/-! The law's hand of drawn numbers: _law_hand, _law_draw, _law_any. -/
namespace Nm
open PySem PySem.Spec PyProof.Rows L2

def topS (i : Nat) : Stmt := PySem.Challenge.pw_namedmoments_k32_sayings_judged.main.body.getD i (.Pass ⟨0, 0, 0, 0⟩)
abbrev sHand : Stmt := topS 24
abbrev sDraw : Stmt := topS 25
abbrev sAny : Stmt := topS 26

/-- the hand at b, its cells at g: the next cell's number, what is left of a great one, the seed, how many were mixed (at most n) -/
structure HandAt (H : Hp) (b g : Addr) (n : Nat) : Prop where
  ne : b ≠ g
  hand : ∃ i big seed c : Int, H b = some (.lst [.ref g, .int i, .int big, .int seed, .int c]) ∧ 0 ≤ i ∧ 0 ≤ big ∧ 0 ≤ seed ∧ seed < 2147483648 ∧ 0 ≤ c ∧ c ≤ n
  cells : ∃ cs : List Int, H g = some (.lst (cs.map V.int)) ∧ ∀ z ∈ cs, 0 ≤ z
theorem HandAt.mono {H : Hp} {b g : Addr} {n m : Nat} (h : HandAt H b g n) (e : n ≤ m) : HandAt H b g m := by
  obtain ⟨ne, ⟨i, big, seed, c, h1, h2, h3, h4, h5, h6, h7⟩, cs⟩ := h
  exact ⟨ne, ⟨i, big, seed, c, h1, h2, h3, h4, h5, h6, by omega⟩, cs⟩
/-- all but the hand's own list is as it was -/
def Kept (b : Addr) (H H' : Hp) : Prop := ∀ c o, H c = some o → c ≠ b → H' c = some o
theorem Kept.refl {b : Addr} (H : Hp) : Kept b H H := fun _ _ h _ => h
theorem Kept.trans {b : Addr} {H H1 H2 : Hp} (x : Kept b H H1) (y : Kept b H1 H2) : Kept b H H2 := fun c o h n => y c o (x c o h n) n
theorem Kept.of_same {b : Addr} {H H' : Hp} (x : Same H H') : Kept b H H' := fun c o h _ => x c o h
theorem HandAt.same {H H' : Hp} {b g : Addr} {n : Nat} (h : HandAt H b g n) (e : Same H H') : HandAt H' b g n := by
  obtain ⟨ne, ⟨i, big, seed, c, h1, h2⟩, cs, h3, h4⟩ := h
  exact ⟨ne, ⟨i, big, seed, c, e _ _ h1, h2⟩, cs, e _ _ h3, h4⟩
theorem cut63 {xs : List V} (h : xs.length ≤ 63) : cutV xs none (some 63) = xs := by
  unfold cutV
  rw [show HT.sIx xs.length xs.length (some 63) = min 63 xs.length from HT.sIx_nat xs.length xs.length 63, HT.sIx_none, Nat.sub_zero, List.drop_zero]
  exact List.take_of_length_le (by omega)
theorem same_upd {H : Hp} {p : Addr} {o : HO} (h : H p = none) : Same H (upd H p o) := fun b x e => by
  rw [upd_ne (ne_of_none e h)]
  exact e
theorem ints_at {ns : List Int} {i : Nat} {y : V} (h : (ns.map V.int)[i]? = some y) : ∃ z, ns[i]? = some z ∧ y = V.int z := by
  rw [List.getElem?_map] at h
  cases e : ns[i]? with
  | none =>
    rw [e] at h
    cases h
  | some z =>
    rw [e] at h
    exact ⟨z, rfl, (Option.some.inj h).symm⟩
structure BltT (mg : Str → Option Value) : Prop where
  int : mg "int" = none
  len : mg "len" = none
  abs : mg "abs" = none

section
variable {P : Program} {w : World} {K : PySem.W.Frag} {mg : Str → Option Value} {base : Heap}
/-! ### a number is drawn -/
def spDraw : Sp := fun vs H Q _ => ∃ (b g : Addr) (n : Nat) (m : Int), vs = [.ref b, .int m] ∧ HandAt H b g n ∧ n < 1000000000000 ∧ 0 < m ∧ m < 2 ^ 1000 ∧
  ∀ (r : Int) (H' : Hp), 0 ≤ r → r < m → HandAt H' b g (n + 1) → Kept b H H' → Q (.int r) H'
abbrev nDraw : List Str := ["hand", "many", "cell", "digit", "number"]
theorem scDraw : FnScope nDraw ["hand", "many"] (defScope sDraw) := ⟨rfl, rfl, rfl, by decide +kernel, rfl, by decide +kernel, by decide +kernel⟩
theorem ok_draw {f : Addr} {fd : FuncData} {k : Nat} (F : Fun K "_law_draw" "_law_draw" sDraw f fd) (T : BltT mg) : FnOk P w K mg base CX0 (k + 1) f fd ["hand", "many"] spDraw := by
  refine F.ok scDraw (fun vs H Q E h => ?_) (fun cdv A outer s H vs Q E hr h => ?_)
  · obtain ⟨b, g, n, m, rfl, _⟩ := h
    rfl
  · obtain ⟨b, g, n, m, rfl, B, hn, hm, hm2, q⟩ := h
    refine ⟨_, pss_cut (ps_if (PW.pt (pw_and (pt_cmpR op_eq (pe_ix ix_list (pv 0) pe_int (fun _ _ => rfl)) pe_int (nomark _)) (pw_and1 (pt_cmpR op_lt (pe_ix ix_list (pv 0) pe_int (fun _ _ => rfl)) (pe_callB call_len_seq (by rfl) T.len PySem.boot_len (pa_cons (pe_ix ix_list (pv 0) pe_int (fun _ _ => rfl)) pa_nil)) (nomark _)))))
        (pss_cons (ps_set (i := 2) scDraw.nd rfl (.inl rfl) (pe_ix ix_list (pe_ix ix_list (pv 0) pe_int (fun _ _ => rfl)) (pe_ix ix_list (pv 0) pe_int (fun _ _ => rfl)) (fun _ _ => rfl)))
        (pss_cons (ps_asg (pe_op op_add (pe_ix ix_list (pv 0) pe_int (fun _ _ => rfl)) pe_int) (pg_sub (pv 0) pe_int set_list))
        (pss_cons (ps_asg (pe_op op_mod (pe_callTy call_int1 (by rfl) T.int (by decide +kernel) (pa_cons (pe_op op_add (pe_op op_add (pe_op op_mul (pe_ix ix_list (pv 0) pe_int (fun _ _ => rfl)) pe_int) (pv 2)) pe_int) pa_nil)) pe_int) (pg_sub (pv 0) pe_int set_list))
        (pss_one (ps_if (pt_cmpR op_ge (pv 2) (pe_op op_pow pe_int pe_int) (nomark _)) (pss_one (ps_asg (pv 2) (pg_sub (pv 0) pe_int set_list))) pss_nil))))) pss_nil)
      (pss_cut (ps_if (pt_cmpR op_gt (pe_ix ix_list (pv 0) pe_int (fun _ _ => rfl)) pe_int (nomark _))
        (pss_cons (ps_set (i := 3) scDraw.nd rfl (.inl rfl) (pe_op op_mod (pe_callTy call_int1 (by rfl) T.int (by decide +kernel) (pa_cons (pe_ix ix_list (pv 0) pe_int (fun _ _ => rfl)) pa_nil)) (pv 1)))
        (pss_cons (ps_asg (pe_op op_fdivW (pe_ix ix_list (pv 0) pe_int (fun _ _ => rfl)) (pv 1)) (pg_sub (pv 0) pe_int set_list))
        (pss_one (ps_ret (pv 3))))) pss_nil)
      (pss_cons (ps_asg (pe_op op_add (pe_ix ix_list (pv 0) pe_int (fun _ _ => rfl)) pe_int) (pg_sub (pv 0) pe_int set_list))
      (pss_cons (ps_set (i := 4) scDraw.nd rfl (.inl rfl) (pe_op op_mod (pe_callTy call_int1 (by rfl) T.int (by decide +kernel) (pa_cons (pe_op op_mul (pe_callTy call_int1 (by rfl) T.int (by decide +kernel) (pa_cons (pe_op op_add (pe_ix ix_list (pv 0) pe_int (fun _ _ => rfl)) (pe_op op_mul pe_int (pe_ix ix_list (pv 0) pe_int (fun _ _ => rfl)))) pa_nil)) pe_int) pa_nil)) pe_int))
      (pss_cons (ps_set (i := 4) scDraw.nd rfl (.inl rfl) (pe_op op_mod (pe_callTy call_int1 (by rfl) T.int (by decide +kernel) (pa_cons (pe_op op_mul (pv 4) (pe_op op_add (pe_op op_fdiv (pv 4) pe_int) pe_int)) pa_nil)) pe_int))
      (pss_cons (ps_set (i := 4) scDraw.nd rfl (.inl rfl) (pe_op op_mod (pe_callTy call_int1 (by rfl) T.int (by decide +kernel) (pa_cons (pe_op op_mul (pv 4) (pe_op op_add (pe_op op_fdiv (pv 4) pe_int) pe_int)) pa_nil)) pe_int))
      (pss_one (ps_ret (pe_op op_mod (pe_callTy call_int1 (by rfl) T.int (by decide +kernel) (pa_cons (pe_op op_fdiv (pv 4) pe_int) pa_nil)) (pv 1))))))))), ?_⟩
    obtain ⟨ne, ⟨i, big, seed, c, hb, hi, hbig, hs0, hs1, hc0, hc1⟩, cs, hg, hcs⟩ := id B
    -- behind the first statement
    refine ⟨fun σ H' => HandAt H' b g n ∧ Kept b H H' ∧ ∃ y : Option V, σ = [some (.ref b), some (.int m), y, none, none], ?_, ?_⟩
    · refine ⟨_, rfl, b, _, 2, .int big, rfl, rfl, SqL.of hb, rfl, rfl, _, rfl, ?_⟩
      refine ite2 (fun c1 => ?_) (fun _ => ⟨B, Kept.refl H, none, rfl⟩)
      refine ⟨_, rfl, b, _, 1, .int i, rfl, rfl, SqL.of hb, rfl, _, rfl, b, _, 0, .ref g, rfl, rfl, SqL.of hb, rfl, g, _, rfl, .inl (SqL.of hg), _, _, rfl, rfl, _, rfl, ?_⟩
      refine ite2 (fun c2 => ?_) (fun _ => ⟨B, Kept.refl H, none, rfl⟩)
      have c2 : i < (((cs.map V.int).length : Nat) : Int) := of_decide_eq_true c2
      rw [List.length_map] at c2
      obtain ⟨j, rfl⟩ : ∃ j : Nat, i = (j : Int) := ⟨i.toNat, by omega⟩
      have hj : j < cs.length := by omega
      have hz : (cs.map V.int)[j]? = some (.int cs[j]) := by rw [List.getElem?_map, List.getElem?_eq_getElem hj]; rfl
      have z0 : 0 ≤ cs[j] := hcs _ (List.getElem_mem hj)
      generalize cs[j] = z at hz z0
      refine ⟨_, rfl, b, _, 0, .ref g, rfl, rfl, SqL.of hb, rfl, _, rfl, b, _, 1, .int (j : Int), rfl, rfl, SqL.of hb, rfl, g, _, (j : Int), .int z, rfl, rfl, SqL.of hg, atI_nat hz, ?_⟩
      refine ⟨_, rfl, b, _, 1, .int (j : Int), rfl, rfl, SqL.of hb, rfl, (j : Int), 1, rfl, rfl, _, rfl, b, _, 1, 1, rfl, rfl, hb, rfl, ?_⟩
      obtain ⟨H1, eH1⟩ : ∃ H1, H1 = upd H b (.lst [.ref g, .int ((j : Int) + 1), .int big, .int seed, .int c]) := ⟨_, rfl⟩
      have hb1 : H1 b = some (.lst [.ref g, .int ((j : Int) + 1), .int big, .int seed, .int c]) := by rw [eH1, upd_same]
      have k1 : Kept b H H1 := fun a o e n1 => by rw [eH1, upd_ne n1]; exact e
      show tSeq _ _ _ _ (upd H b (.lst [.ref g, .int ((j : Int) + 1), .int big, .int seed, .int c]))
      rw [← eH1]
      refine ⟨_, rfl, b, _, 3, .int seed, rfl, rfl, SqL.of hb1, rfl, seed, 69621, rfl, rfl, .inl (by omega), _, rfl, _, z, rfl, rfl, _, 11, rfl, rfl, .inl ⟨_, rfl, _, 2147483629, rfl, rfl, (show (0 : Int) < 2147483629 by decide), _, rfl, b, _, 3, 3, rfl, rfl, hb1, rfl, ?_⟩⟩
      obtain ⟨y0, ey0⟩ : ∃ y, y = (seed * 69621 + z + 11) % 2147483629 := ⟨_, rfl⟩
      have y00 : 0 ≤ y0 := by rw [ey0]; exact Int.emod_nonneg _ (by decide)
      have y01 : y0 < 2147483648 := by rw [ey0]; exact Int.lt_trans (Int.emod_lt_of_pos _ (by decide)) (by decide)
      obtain ⟨H2, eH2⟩ : ∃ H2, H2 = upd H1 b (.lst [.ref g, .int ((j : Int) + 1), .int big, .int y0, .int c]) := ⟨_, rfl⟩
      have hb2 : H2 b = some (.lst [.ref g, .int ((j : Int) + 1), .int big, .int y0, .int c]) := by rw [eH2, upd_same]
      have k2 : Kept b H H2 := fun a o e n1 => by rw [eH2, upd_ne n1]; exact k1 a o e n1
      have go : ∀ X : Hp, X = upd H1 b (HO.lst ([V.ref g, V.int ((j : Int) + 1), .int big, .int seed, .int c].set 3 (.int ((seed * 69621 + z + 11) % 2147483629)))) → X = H2 := fun X e => by rw [e, ← ey0, eH2]; rfl
      rw [go _ rfl]
      have fin : ∀ (bg : Int) (H3 : Hp), 0 ≤ bg → H3 b = some (.lst [.ref g, .int ((j : Int) + 1), .int bg, .int y0, .int c]) → Kept b H H3 → HandAt H3 b g n ∧ Kept b H H3 := fun bg H3 hbg h3 k3 =>
        ⟨⟨ne, ⟨_, bg, y0, c, h3, by omega, hbg, y00, y01, hc0, hc1⟩, cs, k3 g _ hg ne.symm, hcs⟩, k3⟩
      refine ⟨_, rfl, 10, 18, rfl, rfl, ⟨by decide, by decide, by decide⟩, z, _, rfl, rfl, _, rfl, ?_⟩
      refine ite2 (fun _ => ?_) (fun _ => ⟨(fin big H2 hbig hb2 k2).1, k2, _, rfl⟩)
      refine ⟨_, rfl, _, rfl, b, _, 2, 2, rfl, rfl, hb2, rfl, ?_⟩
      have h3 : upd H2 b (.lst [.ref g, .int ((j : Int) + 1), .int z, .int y0, .int c]) b = some (.lst [.ref g, .int ((j : Int) + 1), .int z, .int y0, .int c]) := upd_same
      exact ⟨(fin z _ z0 h3 fun a o e n1 => by rw [upd_ne n1]; exact k2 a o e n1).1, fun a o e n1 => by rw [upd_ne n1]; exact k2 a o e n1, _, rfl⟩
    · clear hb hi hbig hs0 hs1 hc0 hc1 hg hcs
      rintro σ H1 ⟨⟨ne, ⟨i, big, seed, c, hb, hi, hbig, hs0, hs1, hc0, hc1⟩, cs, hg, hcs⟩, k1, y, rfl⟩
      refine ⟨fun σ H' => big = 0 ∧ H' = H1 ∧ σ = [some (.ref b), some (.int m), y, none, none], ?_, ?_⟩
      · refine ⟨_, rfl, b, _, 2, .int big, rfl, rfl, SqL.of hb, rfl, _, _, rfl, rfl, _, rfl, ?_⟩
        refine ite2 (fun c1 => ?_) (fun c1 => ⟨?_, rfl, rfl⟩)
        · have c1 : 0 < big := of_decide_eq_true c1
          refine ⟨_, rfl, b, _, 2, .int big, rfl, rfl, SqL.of hb, rfl, .inl ⟨big, rfl, _, rfl, big, m, rfl, rfl, hm, ?_⟩⟩
          refine ⟨_, rfl, b, _, 2, .int big, rfl, rfl, SqL.of hb, rfl, _, rfl, big, m, rfl, rfl, wide_div (b := 1000) hm (show m.natAbs < 2 ^ 1000 by omega) (by decide) (by decide), _, rfl, b, _, 2, 2, rfl, rfl, hb, rfl, ?_⟩
          refine ⟨_, rfl, q _ _ (Int.emod_nonneg _ (by omega)) (Int.emod_lt_of_pos _ hm) ⟨ne, ⟨i, big / m, seed, c, upd_same, hi, Int.ediv_nonneg hbig (by omega), hs0, hs1, hc0, by omega⟩, cs, ?_, hcs⟩ fun a o e n1 => ?_⟩
          · rw [upd_ne ne.symm]; exact hg
          · rw [upd_ne n1]; exact k1 a o e n1
        · have c1 : ¬ 0 < big := fun z => c1 (decide_eq_true z)
          omega
      · rintro σ H2 ⟨rfl, rfl, rfl⟩
        refine ⟨_, rfl, b, _, 4, .int c, rfl, rfl, SqL.of hb, rfl, c, 1, rfl, rfl, _, rfl, b, _, 4, 4, rfl, rfl, hb, rfl, ?_⟩
        obtain ⟨H3, eH3⟩ : ∃ H3, H3 = upd H2 b (.lst [.ref g, .int i, .int 0, .int seed, .int (c + 1)]) := ⟨_, rfl⟩
        have hb3 : H3 b = some (.lst [.ref g, .int i, .int 0, .int seed, .int (c + 1)]) := by rw [eH3, upd_same]
        have k3 : Kept b H H3 := fun a o e n1 => by rw [eH3, upd_ne n1]; exact k1 a o e n1
        have hg3 : H3 g = some (.lst (cs.map V.int)) := by rw [eH3, upd_ne ne.symm]; exact hg
        show tSeq _ _ _ _ (upd H2 b (.lst [.ref g, .int i, .int 0, .int seed, .int (c + 1)]))
        rw [← eH3]
        have hx0 : 0 ≤ (seed + 7919 * (c + 1)) * 48271 := Int.mul_nonneg (by omega) (by decide)
        have b1 : -(2 ^ 64) < seed + 7919 * (c + 1) ∧ seed + 7919 * (c + 1) < 2 ^ 64 := by omega
        refine ⟨_, rfl, b, _, 3, .int seed, rfl, rfl, SqL.of hb3, rfl, _, rfl, b, _, 4, .int (c + 1), rfl, rfl, SqL.of hb3, rfl, 7919, c + 1, rfl, rfl, .inl (by decide), seed, 7919 * (c + 1), rfl, rfl, .inl ⟨_, rfl, _, 48271, rfl, rfl, .inl b1, .inl ⟨_, rfl, _, 2147483647, rfl, rfl, (show (0 : Int) < 2147483647 by decide), ?_⟩⟩⟩
        obtain ⟨y0, ey0⟩ : ∃ y, y = (seed + 7919 * (c + 1)) * 48271 % 2147483647 := ⟨_, rfl⟩
        have y00 : 0 ≤ y0 := by rw [ey0]; exact Int.emod_nonneg _ (by decide)
        have y01 : y0 < 2147483648 := by rw [ey0]; exact Int.lt_trans (Int.emod_lt_of_pos _ (by decide)) (by decide)
        show gName 4 (V.int ((seed + 7919 * (c + 1)) * 48271 % 2147483647)) _ _ _
        rw [← ey0]
        refine ⟨_, rfl, _, rfl, y0, 1009, rfl, rfl, ⟨by decide, by decide⟩, _, 69621, rfl, rfl, y0, _, rfl, rfl, .inl (by omega), .inl ⟨_, rfl, _, 2147483647, rfl, rfl, (show (0 : Int) < 2147483647 by decide), ?_⟩⟩
        obtain ⟨y1, ey1⟩ : ∃ y, y = y0 * (y0 / 1009 + 69621) % 2147483647 := ⟨_, rfl⟩
        have y10 : 0 ≤ y1 := by rw [ey1]; exact Int.emod_nonneg _ (by decide)
        have y11 : y1 < 2147483648 := by rw [ey1]; exact Int.lt_trans (Int.emod_lt_of_pos _ (by decide)) (by decide)
        show gName 4 (V.int (y0 * (y0 / 1009 + 69621) % 2147483647)) _ _ _
        rw [← ey1]
        refine ⟨_, rfl, _, rfl, y1, 2003, rfl, rfl, ⟨by decide, by decide⟩, _, 40692, rfl, rfl, y1, _, rfl, rfl, .inl (by omega), .inl ⟨_, rfl, _, 2147483399, rfl, rfl, (show (0 : Int) < 2147483399 by decide), ?_⟩⟩
        obtain ⟨y2, ey2⟩ : ∃ y, y = y1 * (y1 / 2003 + 40692) % 2147483399 := ⟨_, rfl⟩
        show gName 4 (V.int (y1 * (y1 / 2003 + 40692) % 2147483399)) _ _ _
        rw [← ey2]
        refine ⟨_, rfl, y2, 16, rfl, rfl, ⟨by decide, by decide⟩, .inl ⟨_, rfl, _, rfl, _, m, rfl, rfl, hm, ?_⟩⟩
        exact q _ _ (Int.emod_nonneg _ (by omega)) (Int.emod_lt_of_pos _ hm) ⟨ne, ⟨i, 0, seed, c + 1, hb3, hi, by decide, hs0, hs1, by omega, by omega⟩, cs, hg3, hcs⟩ k3
/-! ### one of a list is drawn -/
def spAny : Sp := fun vs H Q _ => ∃ (b g t : Addr) (n : Nat) (xs : List V), vs = [.ref b, .ref t] ∧ HandAt H b g n ∧ n < 1000000000000 ∧ H t = some (.lst xs) ∧ t ≠ b ∧ 0 < xs.length ∧ xs.length ≤ 1000 ∧
  ∀ (v : V) (H' : Hp), v ∈ xs → HandAt H' b g (n + 1) → Kept b H H' → Q v H'
theorem scAny : FnScope ["hand", "some"] ["hand", "some"] (defScope sAny) := ⟨rfl, rfl, rfl, by decide +kernel, rfl, by decide +kernel, by decide +kernel⟩
theorem ok_any {f fP : Addr} {fd fdP : FuncData} {k : Nat} (F : Fun K "_law_any" "_law_any" sAny f fd) (T : BltT mg) (FP : Fun K "_law_draw" "_law_draw" sDraw fP fdP) (bP : Binds K fdP ["hand", "many"] []) (gP : mg "_law_draw" = some (.ref fP)) :
    FnOk P w K mg base CX0 (k + 2) f fd ["hand", "some"] spAny := by
  have GP : FnOk P w K mg base CX0 (k + 1) fP fdP ["hand", "many"] spDraw := ok_draw FP T
  refine F.ok scAny (fun vs H Q E h => ?_) (fun cdv A outer s H vs Q E hr h => ?_)
  · obtain ⟨b, g, t, n, xs, rfl, _⟩ := h
    rfl
  · obtain ⟨b, g, t, n, xs, rfl, B, hn, ht, ntb, h0, h1, q⟩ := h
    refine ⟨_, pss_one (ps_ret (pe_ix ix_list (pv 1) (pe_call GP hr rfl gP FP.kp bP .nil pass0 (pa_cons (pv 0) (pa_cons (pe_callB call_len_seq (by rfl) T.len PySem.boot_len (pa_cons (pv 1) pa_nil)) pa_nil))) (fun _ _ => rfl))), ?_⟩
    refine ⟨_, rfl, _, rfl, _, rfl, t, _, rfl, .inl (SqL.of ht), b, g, n, (xs.length : Int), rfl, B, hn, by omega, ?_, fun r H' r0 r1 B' kb => ?_⟩
    · exact Int.lt_of_le_of_lt (show (xs.length : Int) ≤ 1000 by omega) (by decide)
    · obtain ⟨j, rfl⟩ : ∃ j : Nat, r = (j : Int) := ⟨r.toNat, by omega⟩
      have hj : j < xs.length := by omega
      have hv : xs[j]? = some xs[j] := List.getElem?_eq_getElem hj
      refine ⟨t, xs, (j : Int), xs[j], rfl, rfl, SqL.of (kb t _ ht ntb), atI_nat hv, ?_⟩
      exact q _ H' (List.getElem_mem hj) B' kb
/-! ### the hand is made -/
def spHand (K : PySem.W.Frag) : Sp := fun vs H Q _ => ∃ (a : Addr) (ns : List Int), vs = [.ref a] ∧ SqL K H a (ns.map V.int) ∧ ns.length ≤ 63 ∧
  ∀ (b g : Addr) (H' : Hp), Same H H' → H b = none → HandAt H' b g 1 → Q (.ref b) H'
abbrev nHand : List Str := ["script", "cells", "cell"]
theorem scHand : FnScope nHand ["script"] (defScope sHand) := ⟨rfl, rfl, rfl, by decide +kernel, rfl, by decide +kernel, by decide +kernel⟩
theorem ok_hand {f : Addr} {fd : FuncData} {k : Nat} (F : Fun K "_law_hand" "_law_hand" sHand f fd) (T : BltT mg) : FnOk P w K mg base CX0 (k + 1) f fd ["script"] (spHand K) := by
  refine F.ok scHand (fun vs H Q E h => ?_) (fun cdv A outer s H vs Q E hr h => ?_)
  · obtain ⟨a, ns, rfl, _⟩ := h
    rfl
  · obtain ⟨a, ns, rfl, hS, hlen, q⟩ := h
    refine ⟨_, pss_cons (ps_setLc (i := 1) (own := [("cell", 2)]) (g := gName 2) (tt := tYes) (by rfl) scHand.nd rfl rfl (sw_true rfl rfl rfl (by decide +kernel)) (pi_list (pe_slice sl_list (pv 0) po_none (po_some pe_int)))
          (blkOk_by (N := nHand) (sc := defScope sHand) (by decide +kernel)) (fun _ _ _ _ _ => pg_name (i := 2) scHand.nd rfl (Or.inl rfl))
          (fun _ _ _ _ _ => pts_nil)
          (fun _ _ _ _ _ => pe_callB call_abs (by rfl) T.abs (by decide +kernel) (pa_cons (pe_callTy call_int1 (by rfl) T.int (by decide +kernel) (pa_cons (pv 2) pa_nil)) pa_nil)))
      (pss_one (ps_ret (pe_lst (pa_cons (pv 1) (pa_cons pe_int (pa_cons pe_int (pa_cons (pe_op op_add pe_int (pe_callB call_len_seq (by rfl) T.len PySem.boot_len (pa_cons (pv 1) pa_nil))) (pa_cons pe_int pa_nil)))))))), ?_⟩
    have e63 : cutV (ns.map V.int) none (some 63) = ns.map V.int := cut63 (by simpa using hlen)
    refine ⟨.ref a, rfl, 63, rfl, a, ns.map V.int, rfl, hS, fun c nc => ⟨c, rfl, ⟨_, SqL.of upd_same⟩, ?_⟩⟩
    rw [e63]
    obtain ⟨H1, eH1⟩ : ∃ H1, H1 = upd H c (.lst (ns.map V.int)) := ⟨_, rfl⟩
    have s1 : Same H H1 := by rw [eH1]; exact same_upd nc
    have hc1 : H1 c = some (.lst (ns.map V.int)) := by rw [eH1, upd_same]
    rw [← eH1]
    intro D hD
    refine lc_list (K := K) (a := c) (xs := ns.map V.int) (fun i H4 => ∃ gs : List Int, H4 = upd H1 D (.lst (gs.map V.int)) ∧ (∀ z ∈ gs, 0 ≤ z) ∧ gs.length ≤ i)
      ⟨[], rfl, (fun _ h => nomatch h), Nat.le_refl _⟩ (fun i H4 _ ⟨gs, e, _, _⟩ => by rw [e]; exact (same_upd hD).seq (SqL.of hc1)) ?_ ?_
    · rintro i y H4 hi ⟨gs, rfl, hg, hl⟩
      obtain ⟨z, hz, rfl⟩ := ints_at hi
      have hi' : i < ns.length := (List.getElem?_eq_some_iff.mp hz).1
      refine ⟨rfl, ?_⟩
      unfold tYes
      dsimp only
      rw [if_pos rfl]
      refine ⟨_, rfl, .inl ⟨z, rfl, z, rfl, _, upd_same, ?_, gs ++ [if z < 0 then -z else z], ?_, ?_, ?_⟩⟩
      · rw [List.length_map, sizeLine_eq]; omega
      · rw [upd_upd, List.map_append]; rfl
      · intro x hx
        rcases List.mem_append.mp hx with hx | hx
        · exact hg x hx
        · obtain rfl := List.mem_singleton.mp hx
          split <;> omega
      · rw [List.length_append]; show gs.length + 1 ≤ i + 1; omega
    · rintro H4 ⟨gs, rfl, hg, hl⟩
      rw [List.length_map] at hl
      refine ⟨_, rfl, _, rfl, D, _, rfl, .inl (SqL.of upd_same), _, _, rfl, rfl, (by show 5 ≤ sizeLine; decide), fun b hb => ?_⟩
      have s4 : Same H (upd H1 D (.lst (gs.map V.int))) := s1.trans (same_upd hD)
      have nDb : D ≠ b := ne_of_none upd_same hb
      refine q b D _ (s4.trans (same_upd hb)) (s4.free hb) ⟨nDb.symm, ⟨0, 0, _, 0, upd_same, by decide, by decide, ?_, ?_, by decide, by decide⟩, gs, ?_, hg⟩
      · rw [List.length_map]; omega
      · rw [List.length_map]; omega
      · rw [upd_ne nDb]; exact upd_same
end
end Nm

/-! Things within one another, empty dicts too; how deep and how long they are; what is judged of them. -/
namespace Nm
open PySem PySem.Spec PyProof.Rows L2
/-! ### data of which b is no place -/
mutual
inductive DZ (b : Addr) (H : Hp) : V → PyData → Prop
  | non : DZ b H .non .none
  | bl (c : Bool) : DZ b H (.bl c) (.bool c)
  | int (i : Int) : DZ b H (.int i) (.int i)
  | str (x : Str) : DZ b H (.str x) (.str x)
  | lst {a : Addr} {xs : List V} {ds : List PyData} : a ≠ b → H a = some (.lst xs) → DZs b H xs ds → DZ b H (.ref a) (.list ds)
  | tup {a : Addr} {xs : List V} {ds : List PyData} : a ≠ b → H a = some (.tup xs) → DZs b H xs ds → DZ b H (.ref a) (.tuple ds)
  | dic {a : Addr} : a ≠ b → H a = some (.dK []) → DZ b H (.ref a) (.dict [])
inductive DZs (b : Addr) (H : Hp) : List V → List PyData → Prop
  | nil : DZs b H [] []
  | cons {v : V} {vs : List V} {d : PyData} {ds : List PyData} : DZ b H v d → DZs b H vs ds → DZs b H (v :: vs) (d :: ds)
end
section
variable {b : Addr} {H H' : Hp}
mutual
theorem DZ.keep (k : Kept b H H') : ∀ {v : V} {d : PyData}, DZ b H v d → DZ b H' v d
  | _, _, .non => .non
  | _, _, .bl c => .bl c
  | _, _, .int i => .int i
  | _, _, .str x => .str x
  | _, _, .lst n h r => .lst n (k _ _ h n) (DZs.keep k r)
  | _, _, .tup n h r => .tup n (k _ _ h n) (DZs.keep k r)
  | _, _, .dic n h => .dic n (k _ _ h n)
theorem DZs.keep (k : Kept b H H') : ∀ {vs : List V} {ds : List PyData}, DZs b H vs ds → DZs b H' vs ds
  | _, _, .nil => .nil
  | _, _, .cons x r => .cons (DZ.keep k x) (DZs.keep k r)
end
theorem DZ.same (e : Same H H') {v : V} {d : PyData} (h : DZ b H v d) : DZ b H' v d := h.keep (Kept.of_same e)
theorem DZs.same (e : Same H H') {v : List V} {d : List PyData} (h : DZs b H v d) : DZs b H' v d := h.keep (Kept.of_same e)
theorem DZs.len : ∀ {vs : List V} {ds : List PyData}, DZs b H vs ds → vs.length = ds.length
  | _, _, .nil => rfl
  | _, _, .cons _ r => by rw [List.length_cons, List.length_cons, DZs.len r]
theorem DZs.at : ∀ {vs : List V} {ds : List PyData} {i : Nat} {v : V}, DZs b H vs ds → vs[i]? = some v → ∃ d, ds[i]? = some d ∧ DZ b H v d
  | _, _, _, _, .nil, h => by simp at h
  | _, _, 0, _, .cons x _, h => by
    obtain rfl := Option.some.inj (by simpa using h)
    exact ⟨_, rfl, x⟩
  | _, _, i + 1, _, .cons _ r, h => by
    obtain ⟨d, h1, h2⟩ := DZs.at (i := i) r (by simpa using h)
    exact ⟨d, by simpa using h1, h2⟩
theorem DZs.append : ∀ {vs us : List V} {ds es : List PyData}, DZs b H vs ds → DZs b H us es → DZs b H (vs ++ us) (ds ++ es)
  | _, _, _, _, .nil, r => r
  | _, _, _, _, .cons x r, s => .cons x (DZs.append r s)
theorem DZs.take : ∀ {vs : List V} {ds : List PyData} (n : Nat), DZs b H vs ds → DZs b H (vs.take n) (ds.take n)
  | _, _, 0, _ => .nil
  | _, _, _ + 1, .nil => .nil
  | _, _, n + 1, .cons x r => .cons x (DZs.take n r)
theorem DZs.drop : ∀ {vs : List V} {ds : List PyData} (n : Nat), DZs b H vs ds → DZs b H (vs.drop n) (ds.drop n)
  | _, _, 0, r => r
  | _, _, _ + 1, .nil => .nil
  | _, _, n + 1, .cons _ r => DZs.drop n r
theorem DZs.rev : ∀ {vs : List V} {ds : List PyData}, DZs b H vs ds → DZs b H vs.reverse ds.reverse
  | _, _, .nil => .nil
  | _, _, .cons x r => by
    rw [List.reverse_cons, List.reverse_cons]
    exact DZs.append (DZs.rev r) (.cons x .nil)
theorem dz_ty {K : PySem.W.Frag} {x : V} {d : PyData} (h : DZ b H x d) : TyX K H x (.type (tyN d)) := by
  cases h with
  | non => exact .base .non
  | bl c => exact .base (.bl c)
  | int i => exact .base (.int i)
  | str x => exact .base (.str x)
  | lst _ h _ => exact .base (.lst h)
  | tup _ h _ => exact .base (.tup h)
  | dic _ h => exact .base (.dK h)
end
def isI : PyData → Bool | .int _ => true | .bool _ => true | _ => false
def isS : PyData → Bool | .str _ => true | _ => false
theorem kit_i {K : PySem.W.Frag} (d : PyData) : PySem.W.kitOne K (.type (tyN d)) (.type "int") = some (isI d) := by
  cases d
  · exact kit_ty (show kitB "NoneType" "int" = some false by decide +kernel)
  · exact kit_ty (show kitB "bool" "int" = some true by decide +kernel)
  · exact kit_ty (show kitB "int" "int" = some true by decide +kernel)
  · exact kit_ty (show kitB "str" "int" = some false by decide +kernel)
  · exact kit_ty (show kitB "list" "int" = some false by decide +kernel)
  · exact kit_ty (show kitB "tuple" "int" = some false by decide +kernel)
  · exact kit_ty (show kitB "dict" "int" = some false by decide +kernel)
theorem kit_s {K : PySem.W.Frag} (d : PyData) : PySem.W.kitOne K (.type (tyN d)) (.type "str") = some (isS d) := by
  cases d
  · exact kit_ty (show kitB "NoneType" "str" = some false by decide +kernel)
  · exact kit_ty (show kitB "bool" "str" = some false by decide +kernel)
  · exact kit_ty (show kitB "int" "str" = some false by decide +kernel)
  · exact kit_ty (show kitB "str" "str" = some true by decide +kernel)
  · exact kit_ty (show kitB "list" "str" = some false by decide +kernel)
  · exact kit_ty (show kitB "tuple" "str" = some false by decide +kernel)
  · exact kit_ty (show kitB "dict" "str" = some false by decide +kernel)

/-! ### what is judged -/
def lettersZ : Str := Str.ofString "abcdefghijklmnopqrstuvwxyz"
def nmB (x : Str) : Bool := (decide ((1 : Int) ≤ (x.length : Int)) && decide ((x.length : Int) ≤ 8)) && x.cps.toList.all fun c => decide (c ∈ lettersZ.cps.toList)
def nmD : PyData → Bool | .str x => nmB x | _ => false
def strIn (L : List Str) : PyData → Bool | .str x => decide (x ∈ L) | _ => false
def intIn (lo hi : Int) : PyData → Bool | .int i => decide (lo ≤ i) && decide (i ≤ hi) | _ => false
def isW (w : Str) (s : String) : Bool := decide (w = Str.ofString s)

def sumO : Option Nat → Option Nat → Option Nat | some m, some n => some (m + n) | _, _ => none
def lawA (rec : List Str → PyData → Option Nat) (L : List Str) (y : PyData) : PyData → Option Nat | .str z => if nmB z then (rec (L ++ [z]) y).map (1 + ·) else none | _ => none
def progA (rec : List Str → PyData → Nat) (L : List Str) (y : PyData) : PyData → Nat | .str z => if nmB z then 1 + rec (L ++ [z]) y else 5 | _ => 5
/-- the law's: how many all and some, none for what is none -/
def lawT (many : Int) (rec : List Str → PyData → Option Nat) (L : List Str) (w : Str) : List PyData → Option Nat
  | [x] => if isW w "not" then rec L x else none
  | [x, y] => if isW w "ahead" || isW w "same" then (if (nmD x && strIn L x) && (nmD y && strIn L y) then some 0 else none)
      else if isW w "and" || isW w "or" then sumO (rec L x) (rec L y)
      else if isW w "all" || isW w "some" then lawA rec L y x else none
  | [x, y, z] => if isW w "is" then (if ((intIn 0 (many - 1) x && nmD y) && strIn L y) && intIn (-1) 1 z then some 0 else none) else none
  | _ => none
def lawB (many : Int) : Nat → List Str → PyData → Option Nat
  | r + 1, L, .tuple (.str w :: rest) => lawT many (lawB many r) L w rest
  | _, _, _ => none
/-- the program's: 5 and more for what is none -/
def progT (many : Int) (rec : List Str → PyData → Nat) (L : List Str) (w : Str) : List PyData → Nat
  | [x] => if isW w "not" then rec L x else 5
  | [x, y] => if isW w "ahead" || isW w "same" then (if strIn L x && strIn L y then 0 else 5)
      else if isW w "and" || isW w "or" then rec L x + rec L y
      else if isW w "all" || isW w "some" then progA rec L y x else 5
  | [x, y, z] => if isW w "is" then (if (intIn 0 (many - 1) x && strIn L y) && intIn (-1) 1 z then 0 else 5) else 5
  | _ => 5
def progB (many : Int) : Nat → List Str → PyData → Nat
  | r + 1, L, .tuple (.str w :: rest) => progT many (progB many r) L w rest
  | _, _, _ => 5
theorem strIn_nm {L : List Str} (hL : ∀ x ∈ L, nmB x = true) (d : PyData) : (nmD d && strIn L d) = strIn L d := by
  cases d with
  | str x =>
    show (nmB x && decide (x ∈ L)) = decide (x ∈ L)
    by_cases h : x ∈ L
    · rw [hL x h, decide_eq_true h]; rfl
    · rw [decide_eq_false h, Bool.and_false]
  | _ => rfl
def Meet (o : Option Nat) (n : Nat) : Prop := (∀ b, o = some b → n = b) ∧ (o = none → 5 ≤ n)
theorem meet_no : Meet none 5 := ⟨(fun _ h => nomatch h), fun _ => Nat.le_refl _⟩
theorem meet_some (n : Nat) : Meet (some n) n := ⟨(fun _ h => Option.some.inj h), (fun h => nomatch h)⟩
theorem meet (many : Int) : ∀ (r : Nat) (L : List Str) (d : PyData), (∀ x ∈ L, nmB x = true) → Meet (lawB many r L d) (progB many r L d) := by
  intro r
  induction r with
  | zero => intro L d _; cases d <;> exact meet_no
  | succ r ih =>
    intro L d hL
    match d with
    | .tuple (.str w :: rest) =>
      show Meet (lawT many (lawB many r) L w rest) (progT many (progB many r) L w rest)
      match rest with
      | [] => exact meet_no
      | [x] =>
        show Meet (if isW w "not" then lawB many r L x else none) (if isW w "not" then progB many r L x else 5)
        split
        · exact ih L x hL
        · exact meet_no
      | [x, y] =>
        have e1 : lawT many (lawB many r) L w [x, y] = if isW w "ahead" || isW w "same" then (if (nmD x && strIn L x) && (nmD y && strIn L y) then some 0 else none)
          else if isW w "and" || isW w "or" then sumO (lawB many r L x) (lawB many r L y)
          else if isW w "all" || isW w "some" then lawA (lawB many r) L y x else none := rfl
        have e2 : progT many (progB many r) L w [x, y] = if isW w "ahead" || isW w "same" then (if strIn L x && strIn L y then 0 else 5)
          else if isW w "and" || isW w "or" then progB many r L x + progB many r L y
          else if isW w "all" || isW w "some" then progA (progB many r) L y x else 5 := rfl
        rw [e1, e2, strIn_nm hL, strIn_nm hL]
        split
        · split
          · exact meet_some 0
          · exact meet_no
        · split
          · obtain ⟨a1, a2⟩ := ih L x hL
            obtain ⟨b1, b2⟩ := ih L y hL
            cases e1 : lawB many r L x with
            | none => exact ⟨(fun _ h => nomatch h), fun _ => by have := a2 e1; omega⟩
            | some m =>
              cases e2 : lawB many r L y with
              | none => exact ⟨(fun _ h => nomatch h), fun _ => by have := b2 e2; omega⟩
              | some n =>
                rw [a1 m e1, b1 n e2]
                exact meet_some (m + n)
          · split
            · cases x with
              | str z =>
                show Meet (if nmB z then (lawB many r (L ++ [z]) y).map (1 + ·) else none) (if nmB z then 1 + progB many r (L ++ [z]) y else 5)
                split
                · rename_i hz
                  obtain ⟨a1, a2⟩ := ih (L ++ [z]) y (fun q hq => by
                    rcases List.mem_append.mp hq with hq | hq
                    · exact hL q hq
                    · rw [List.mem_singleton.mp hq]; exact hz)
                  cases e1 : lawB many r (L ++ [z]) y with
                  | none => exact ⟨(fun _ h => nomatch h), fun _ => by have := a2 e1; omega⟩
                  | some m =>
                    rw [a1 m e1]
                    exact meet_some (1 + m)
                · exact meet_no
              | _ => exact meet_no
            · exact meet_no
      | [x, y, z] =>
        have e1 : lawT many (lawB many r) L w [x, y, z] = if isW w "is" then (if ((intIn 0 (many - 1) x && nmD y) && strIn L y) && intIn (-1) 1 z then some 0 else none) else none := rfl
        have e2 : progT many (progB many r) L w [x, y, z] = if isW w "is" then (if (intIn 0 (many - 1) x && strIn L y) && intIn (-1) 1 z then 0 else 5) else 5 := rfl
        rw [e1, e2, Bool.and_assoc (intIn 0 (many - 1) x) (nmD y) (strIn L y), strIn_nm hL]
        split
        · split
          · exact meet_some 0
          · exact meet_no
        · exact meet_no
      | _ :: _ :: _ :: _ :: _ => exact meet_no
    | .tuple [] => exact meet_no
    | .tuple (.none :: _) => exact meet_no
    | .tuple (.bool _ :: _) => exact meet_no
    | .tuple (.int _ :: _) => exact meet_no
    | .tuple (.list _ :: _) => exact meet_no
    | .tuple (.tuple _ :: _) => exact meet_no
    | .tuple (.dict _ :: _) => exact meet_no
    | .none => exact meet_no
    | .bool _ => exact meet_no
    | .int _ => exact meet_no
    | .str _ => exact meet_no
    | .list _ => exact meet_no
    | .dict _ => exact meet_no
def oneB : Option Nat → Bool | some n => decide (n ≤ 4) | none => false
theorem meet_one {many : Int} {r : Nat} {L : List Str} {d : PyData} (hL : ∀ x ∈ L, nmB x = true) : decide (progB many r L d ≤ 4) = oneB (lawB many r L d) := by
  obtain ⟨a, b⟩ := meet many r L d hL
  cases e : lawB many r L d with
  | none => have := b e; exact decide_eq_false (by omega)
  | some m => rw [a m e]; rfl

/-! ### how deep, how long -/
def strs0 : List Str := (["x", "y", "z", "later", "abcdefgh", "all", "some", "and", "or", "not", "is", "ahead", "same", "any", "Is", "", "X", "abcdefghi"] : List String).map Str.ofString
def ints0 : List Int := [-1, 0, 1, 2, 3, 4, 5, 10 ^ 29]
mutual
def okd : PyData → Bool
  | .none => true
  | .bool _ => true
  | .int i => decide (i ∈ ints0)
  | .str x => decide (x ∈ strs0)
  | .list xs => okds xs
  | .tuple xs => okds xs
  | .dict kvs => kvs.isEmpty
def okds : List PyData → Bool
  | [] => true
  | x :: xs => okd x && okds xs
end
mutual
def sz : PyData → Nat
  | .list xs => 8 + szs xs
  | .tuple xs => 8 + szs xs
  | _ => 64
def szs : List PyData → Nat
  | [] => 0
  | x :: xs => sz x + 2 + szs xs
end
theorem okds_iff : ∀ {xs : List PyData}, okds xs = true ↔ ∀ x ∈ xs, okd x = true
  | [] => by simp [okds]
  | x :: xs => by
    show (okd x && okds xs) = true ↔ _
    rw [Bool.and_eq_true, okds_iff (xs := xs)]
    simp
theorem szs_append : ∀ (xs ys : List PyData), szs (xs ++ ys) = szs xs + szs ys
  | [], ys => by show szs ys = 0 + szs ys; omega
  | x :: xs, ys => by
    show sz x + 2 + szs (xs ++ ys) = sz x + 2 + szs xs + szs ys
    rw [szs_append xs ys]; omega
theorem depthAll_append : ∀ (xs ys : List PyData), PyData.depthAll (xs ++ ys) = max (PyData.depthAll xs) (PyData.depthAll ys)
  | [], ys => by show PyData.depthAll ys = max 0 _; omega
  | x :: xs, ys => by
    show max x.depth (PyData.depthAll (xs ++ ys)) = max (max x.depth (PyData.depthAll xs)) (PyData.depthAll ys)
    rw [depthAll_append xs ys]; omega
theorem okds_append (xs ys : List PyData) : okds (xs ++ ys) = true ↔ okds xs = true ∧ okds ys = true := by
  rw [okds_iff, okds_iff, okds_iff]
  simp only [List.mem_append]
  exact ⟨fun h => ⟨fun x hx => h x (.inl hx), fun x hx => h x (.inr hx)⟩, fun h x hx => hx.elim (h.1 x) (h.2 x)⟩
theorem leaf_i : ∀ i ∈ ints0, (PyData.shown (.int i)).length ≤ 64 ∧ i.natAbs.log2 < 1920 := by decide +kernel
theorem leaf_s : ∀ x ∈ strs0, (PyData.shown (.str x)).length ≤ 64 := by decide +kernel
mutual
theorem shown_sz : ∀ d : PyData, okd d = true → d.shown.length ≤ sz d ∧ d.showable = true
  | .none, _ => ⟨by decide, rfl⟩
  | .bool c, _ => ⟨by cases c <;> decide, rfl⟩
  | .int i, h => by
    obtain ⟨a, b⟩ := leaf_i i (of_decide_eq_true h)
    exact ⟨a, decide_eq_true b⟩
  | .str x, h => ⟨leaf_s x (of_decide_eq_true h), rfl⟩
  | .list xs, h => by
    obtain ⟨a, b⟩ := shownAll_sz xs h
    refine ⟨?_, b⟩
    have h2 := listText_len_le (PyData.shownAll xs)
    have h3 := PyData.shownAll_length xs
    show (listText (PyData.shownAll xs)).length ≤ 8 + szs xs
    omega
  | .tuple xs, h => by
    obtain ⟨a, b⟩ := shownAll_sz xs h
    refine ⟨?_, b⟩
    have h2 := tupleText_len_le (PyData.shownAll xs)
    have h3 := PyData.shownAll_length xs
    show (tupleText (PyData.shownAll xs)).length ≤ 8 + szs xs
    omega
  | .dict kvs, h => by
    have e : kvs = [] := by simpa [okd] using h
    subst e
    exact ⟨by decide, rfl⟩
theorem shownAll_sz : ∀ xs : List PyData, okds xs = true → ((PyData.shownAll xs).map (·.length)).sum + 2 * xs.length ≤ szs xs ∧ PyData.showableAll xs = true
  | [], _ => ⟨by decide, rfl⟩
  | x :: xs, h => by
    obtain ⟨h1, h2⟩ := Bool.and_eq_true_iff.mp (show (okd x && okds xs) = true from h)
    obtain ⟨a1, a2⟩ := shown_sz x h1
    obtain ⟨b1, b2⟩ := shownAll_sz xs h2
    refine ⟨?_, ?_⟩
    · show (x.shown.length :: (PyData.shownAll xs).map (·.length)).sum + 2 * (xs.length + 1) ≤ sz x + 2 + szs xs
      rw [List.sum_cons]
      omega
    · show (x.showable && PyData.showableAll xs) = true
      rw [a2, b2]; rfl
end
/-- a thing of what is drawn, at most so deep, at most so long -/
structure Th (d : PyData) (D L : Nat) : Prop where
  ok : okd d = true
  deep : d.depth ≤ D
  long : sz d ≤ L
theorem Th.mono {d : PyData} {D L D' L' : Nat} (h : Th d D L) (h1 : D ≤ D') (h2 : L ≤ L') : Th d D' L' := ⟨h.ok, Nat.le_trans h.deep h1, Nat.le_trans h.long h2⟩
theorem Th.int {i : Int} {D L : Nat} (h : i ∈ ints0) (hL : 64 ≤ L) : Th (.int i) D L := ⟨decide_eq_true h, Nat.zero_le _, hL⟩
theorem Th.str {x : Str} {D L : Nat} (h : x ∈ strs0) (hL : 64 ≤ L) : Th (.str x) D L := ⟨decide_eq_true h, Nat.zero_le _, hL⟩
theorem th1 {a : PyData} {D A : Nat} (ha : Th a D A) : Th (.tuple [a]) (D + 1) (A + 10) := by
  obtain ⟨a1, a2, a3⟩ := ha
  refine ⟨?_, ?_, ?_⟩
  · show (okd a && true) = true
    rw [a1]; rfl
  · show max a.depth 0 + 1 ≤ D + 1
    omega
  · show 8 + (sz a + 2 + 0) ≤ A + 10
    omega
theorem th2 {a b : PyData} {D A B : Nat} (ha : Th a D A) (hb : Th b D B) : Th (.tuple [a, b]) (D + 1) (A + B + 12) := by
  obtain ⟨a1, a2, a3⟩ := ha
  obtain ⟨b1, b2, b3⟩ := hb
  refine ⟨?_, ?_, ?_⟩
  · show (okd a && (okd b && true)) = true
    rw [a1, b1]; rfl
  · show max a.depth (max b.depth 0) + 1 ≤ D + 1
    omega
  · show 8 + (sz a + 2 + (sz b + 2 + 0)) ≤ A + B + 12
    omega
theorem th3 {a b c : PyData} {D A B C : Nat} (ha : Th a D A) (hb : Th b D B) (hc : Th c D C) : Th (.tuple [a, b, c]) (D + 1) (A + B + C + 14) := by
  obtain ⟨a1, a2, a3⟩ := ha
  obtain ⟨b1, b2, b3⟩ := hb
  obtain ⟨c1, c2, c3⟩ := hc
  refine ⟨?_, ?_, ?_⟩
  · show (okd a && (okd b && (okd c && true))) = true
    rw [a1, b1, c1]; rfl
  · show max a.depth (max b.depth (max c.depth 0)) + 1 ≤ D + 1
    omega
  · show 8 + (sz a + 2 + (sz b + 2 + (sz c + 2 + 0))) ≤ A + B + C + 14
    omega
theorem th4 {a b c e : PyData} {D A B C E : Nat} (ha : Th a D A) (hb : Th b D B) (hc : Th c D C) (he : Th e D E) : Th (.tuple [a, b, c, e]) (D + 1) (A + B + C + E + 16) := by
  obtain ⟨a1, a2, a3⟩ := ha
  obtain ⟨b1, b2, b3⟩ := hb
  obtain ⟨c1, c2, c3⟩ := hc
  obtain ⟨e1, e2, e3⟩ := he
  refine ⟨?_, ?_, ?_⟩
  · show (okd a && (okd b && (okd c && (okd e && true)))) = true
    rw [a1, b1, c1, e1]; rfl
  · show max a.depth (max b.depth (max c.depth (max e.depth 0))) + 1 ≤ D + 1
    omega
  · show 8 + (sz a + 2 + (sz b + 2 + (sz c + 2 + (sz e + 2 + 0)))) ≤ A + B + C + E + 16
    omega
end Nm

/-! repr(x), x a thing of any kind; nothing is being shown around it. -/
namespace Nm
open PySem PySem.Spec PyProof.Rows L2
section
variable {X : Cx} {pins : List (Addr × Obj)} {σ : L2.St} {H : Hp} {s : Shared} {b : Addr}
theorem DZ.isRef {x : V} {d : PyData} {u : Value} (h : DZ b H x d) (r : RelV x u) : (∃ a, u = .ref a) ∨ (d = .none ∧ u = .none) ∨ (∃ c, d = .bool c ∧ u = .bool c) ∨ (∃ i t, d = .int i ∧ u = .int i t) ∨ ∃ z t, d = .str z ∧ u = .str z t := by
  cases h with
  | non => exact .inr (.inl ⟨rfl, r⟩)
  | bl c => exact .inr (.inr (.inl ⟨c, rfl, r⟩))
  | int i => obtain ⟨t, e⟩ := r; exact .inr (.inr (.inr (.inl ⟨i, t, rfl, e⟩)))
  | str z => obtain ⟨t, e⟩ := r; exact .inr (.inr (.inr (.inr ⟨z, t, rfl, e⟩)))
  | lst _ _ _ => exact .inl ⟨_, r⟩
  | tup _ _ _ => exact .inl ⟨_, r⟩
  | dic _ _ => exact .inl ⟨_, r⟩
mutual
theorem DZ.reads (I : Inv X pins σ H s) (h1 : H sysModules = none) : ∀ {v : V} {d : PyData} {u : Value}, DZ b H v d → RelV v u → ∃ as, Reads s.heap u d as ∧ sysModules ∉ as
  | _, _, _, .non, r => by
    cases r
    exact ⟨_, Reads.none, by simp⟩
  | _, _, _, .bl c, r => by
    cases r
    exact ⟨_, Reads.bool c, by simp⟩
  | _, _, _, .int i, r => by
    obtain ⟨t, rfl⟩ := r
    exact ⟨_, Reads.int i t, by simp⟩
  | _, _, _, .str x, r => by
    obtain ⟨t, rfl⟩ := r
    exact ⟨_, Reads.str x t, by simp⟩
  | _, _, _, .lst (a := a) (xs := xs) n h rs, r => by
    cases r
    obtain ⟨_, its, k, rv, ho⟩ := (show ObjOk X.prog X.w H s.heap a (.lst xs) from I.hok a _ h)
    obtain ⟨as, q1, q2⟩ := DZs.reads I h1 rs rv
    refine ⟨_, Reads.list ho rfl rfl q1, ?_⟩
    intro hm
    rcases List.mem_cons.mp hm with e | hm
    · rw [e] at h1
      rw [h1] at h
      cases h
    · exact q2 hm
  | _, _, _, .tup (a := a) (xs := xs) n h rs, r => by
    cases r
    obtain ⟨_, its, rv, o, ho, hc, k, hd⟩ := (show ObjOk X.prog X.w H s.heap a (.tup xs) from I.hok a _ h)
    obtain ⟨as, q1, q2⟩ := DZs.reads I h1 rs rv
    exact ⟨_, Reads.tuple ho hc hd q1, q2⟩
  | _, _, _, .dic (a := a) n h, r => by
    cases r
    obtain ⟨_, hs, vs, kv, o, es, ep, e1, e2, e3, e4, e5, e6⟩ := (show ObjOk X.prog X.w H s.heap a (.dK []) from I.hok a _ h)
    cases kv
    have e0 : es.toList = [] := by
      generalize es.toList = l at e5
      cases e5
      rfl
    refine ⟨[a] ++ [], Reads.dict (as := []) (bs := []) e1 e2.1 e3 (by rw [e0]; exact .nil) (by rw [e0]; exact .nil), ?_⟩
    intro hm
    have e : sysModules = a := by simpa using hm
    rw [e] at h1
    rw [h1] at h
    cases h
theorem DZs.reads (I : Inv X pins σ H s) (h1 : H sysModules = none) : ∀ {vs : List V} {ds : List PyData} {us : List Value}, DZs b H vs ds → Vals vs us → ∃ as, ReadsAll s.heap us ds as ∧ sysModules ∉ as
  | _, _, _, .nil, r => by
    cases r
    exact ⟨_, ReadsAll.nil, by simp⟩
  | _, _, _, .cons x rs, r => by
    cases r with
    | cons r1 r2 =>
      obtain ⟨as, q1, n1⟩ := DZ.reads I h1 x r1
      obtain ⟨bs, q2, n2⟩ := DZs.reads I h1 rs r2
      refine ⟨_, ReadsAll.cons q1 q2, fun hm => ?_⟩
      rcases List.mem_append.mp hm with hm | hm
      · exact n1 hm
      · exact n2 hm
end
end
section
variable {X : Cx}
def rRepr : List V → Hp → VK → Prop := fun xs H Q => ∃ (b : Addr) (x : V) (d : PyData) (D L : Nat), xs = [x] ∧ DZ b H x d ∧ Th d D L ∧ D ≤ 50 ∧ L ≤ 10000000 ∧ Q (.str d.shown) H
theorem call_repr_data (hg : X.A.guards = some []) (hsys : ∃ o, X.base.get? sysModules = some o) (hu : X.A.units + 64 < cLine) : CallR X (.builtin "repr") rRepr := by
  intro pins s σ H xs us Q I r h
  obtain ⟨b, x, d, D, L, rfl, hd, th, hD, hL, q⟩ := h
  obtain ⟨u, rfl, r1⟩ := vals1 r
  obtain ⟨o, ho⟩ := hsys
  have h1 : H sysModules = none := (I.bs _ _ ho).2
  obtain ⟨as, rd, na⟩ := hd.reads I h1 r1
  obtain ⟨z1, z2⟩ := shown_sz d th.ok
  have hz : d.shown.length ≤ sizeLine := by
    have := th.long
    rw [PySem.sizeLine_eq]
    omega
  have hdp : X.A.units + (d.depth + 1) < cLine := by
    have := th.deep
    omega
  rcases hd.isRef r1 with ⟨a, rfl⟩ | ⟨rfl, rfl⟩ | ⟨c, rfl, rfl⟩ | ⟨i, t, rfl, rfl⟩ | ⟨z, t, rfl, rfl⟩
  · exact repr_of_reads' rd z2 (fun _ => na) hg hdp (fun _ _ e => e) (fun h' u tk hk => ⟨.str d.shown, H, I.kept hk, ⟨u, rfl⟩, q⟩) hz
  · exact PySem.P.repr_of_none ⟨.str _, H, I.tok _, ⟨_, rfl⟩, q⟩
  · exact PySem.P.repr_of_bool ⟨.str _, H, I.tok _, ⟨_, rfl⟩, q⟩
  · exact PySem.P.repr_of_int (of_decide_eq_true z2) ⟨.str _, H, I.tok _, ⟨_, rfl⟩, q⟩
  · exact PySem.P.repr_of_str ⟨.str _, H, I.tok _, ⟨_, rfl⟩, q⟩ hz
end
end Nm

/-! len(set(t)), t a tuple of unlike texts. -/
namespace Nm
open PySem PySem.Spec PyProof.Rows L2
/-- what is among the first so many -/
def amid (xs : List Str) (i : Nat) : Str → Bool := fun y => decide (y ∈ xs.take i)
theorem amid_succ {xs : List Str} {i : Nat} {x : Str} (e : xs[i]? = some x) (y : Str) : (amid xs i y || decide (y = x)) = amid xs (i + 1) y := by
  have h : xs.take (i + 1) = xs.take i ++ [x] := by rw [List.take_add_one, e]; rfl
  unfold amid
  rw [h]
  by_cases a : y ∈ xs.take i <;> by_cases c : y = x <;> simp [a, c]
theorem amid_new {xs : List Str} (u : xs.Nodup) {i : Nat} {x : Str} (e : xs[i]? = some x) : amid xs i x = false := by
  refine decide_eq_false fun hx => ?_
  obtain ⟨j, hj⟩ := List.mem_iff_getElem?.mp hx
  rw [List.getElem?_take] at hj
  split at hj
  · rename_i hji
    obtain ⟨a1, a2⟩ := List.getElem?_eq_some_iff.mp hj
    obtain ⟨b1, b2⟩ := List.getElem?_eq_some_iff.mp e
    exact List.pairwise_iff_getElem.mp u j i a1 b1 hji (a2.trans b2.symm)
  · cases hj
section
variable {prog : Program} {w : World} {A : Around} {I D : Addr} {fp wr : List Addr} {G : Array GenState → Array GenState → Prop} {n : Nat} {Pt : Nat → Value → Prop} {St : Nat → Shared → Prop} {R : Result → Shared → Prop}
theorem fillU (W : WalksS prog w A.in1 I fp wr G n Pt St) (out : D ∉ fp) {xs : List Str} (u : xs.Nodup) (len : xs.length = n) (small : n + 1 < scanBound)
    (item : ∀ i v, Pt i v → ∃ x t, xs[i]? = some x ∧ v = .str x t) : ∀ (left i : Nat) (s : Shared), i + left = n → St i s → s.heap.SetOf (PySem.strKind prog w) D (amid xs i) i →
      (∀ s2, Moved (D :: wr) G s s2 → s2.heap.SetOf (PySem.strKind prog w) D (amid xs n) n → R (.ok (.ret .none)) s2) →
      codeAny (model prog w) A (.builtin "set.update.loop" ⟨[.ref D, .ref I], []⟩) R s := by
  have nw : D ∉ wr := fun h => out (W.sub _ h)
  have more : ∀ c ∈ wr, c ∈ D :: wr := fun c hc => List.mem_cons_of_mem _ hc
  intro left
  induction left with
  | zero =>
    intro i s hi st hS hR
    obtain rfl : i = n := by omega
    refine codeAny_builtin PyProof.Rows.F.entry_set_update_loop ?_
    rw [Around.under_plainId PyProof.Rows.F.plain_set_update_loop _]
    refine (wpAny_bind (W.done s _ _ st fun s2 mv => ?_) : wpAny _ A.in1 (pyNext (.ref I) >>= _) _ _ s)
    obtain ⟨o, es, ep, t, ho, tl⟩ := hS
    show wpAny _ A.in1 (ret Value.none) _ _ s2
    exact wpAny_pure (hR s2 (mv.mono more) ⟨o, es, ep, t, mv.heap D _ nw ho, tl⟩)
  | succ left ih =>
    intro i s hi st hS hR
    refine codeAny_builtin PyProof.Rows.F.entry_set_update_loop ?_
    rw [Around.under_plainId PyProof.Rows.F.plain_set_update_loop _]
    refine (wpAny_bind (W.item i s _ _ (by omega) st fun v s2 pt st2 mv => ?_) : wpAny _ A.in1 (pyNext (.ref I) >>= _) _ _ s)
    obtain ⟨x, t, hx, rfl⟩ := item i v pt
    have hS2 : s2.heap.SetOf (PySem.strKind prog w) D (amid xs i) i := by
      obtain ⟨o, es, ep, tb, ho, tl⟩ := hS
      exact ⟨o, es, ep, tb, mv.heap D _ nw ho, tl⟩
    refine (wpAny_bind (wpAny_holding ?_) : wpAny _ A.in1 (holding [Value.str x t] (setAdd D (.str x t)) >>= _) _ _ s2)
    unfold setAdd
    refine wpAny_holding (wpAny_bind ((PySem.strKind prog w).pyHash (k := x) (strKind_is _ _ _ _) ?_))
    refine wpAny_setAddHashed_of (knd := PySem.strKind prog w) (s := { s2 with toks := s2.toks + 1 }) (strKind_is _ _ _ _) rfl hS2 (by omega) fun h3 sb hS3 => ?_
    have hS4 : h3.SetOf (PySem.strKind prog w) D (amid xs (i + 1)) (i + 1) := by
      refine SetOf_congr hS3 (amid_succ hx) ?_
      rw [amid_new u hx]
      rfl
    have off : ∀ c, c ≠ D → ∀ o, s2.heap.get? c = some o → h3.get? c = some o := fun c hc o e => (sb.2 c hc).trans e
    refine wpAny_pure ⟨plainId_quiet PyProof.Rows.F.plain_set_update_loop _, ih (i + 1) _ (by omega) (W.frame _ s2 _ _ st2 (Nat.le_succ _) fun c hc o e => off c (fun z => out (z ▸ hc)) o e) hS4 fun s5 mv5 hS5 => hR s5 ?_ hS5⟩
    exact Moved.trans W.gtrans ((mv.mono more).then_heap (Nat.le_succ _) fun c o hc e => off c (fun z => hc (by rw [z]; exact List.mem_cons_self)) o e) mv5
end
section
variable {prog : Program} {w : World} {A : Around} {E : Value → Shared → Prop} {s : Shared}
set_option maxHeartbeats 3200000 in
theorem set_tupU {t : Addr} {its : Array Value} {xs : List Str} {Q : Value → Shared → Prop} (hh : A.handled = none) (ht : s.heap.IsTuple t its) (are : PyProof.Rows.StrsAre its.toList xs) (u : xs.Nodup) (small : xs.length + 1 < scanBound)
    (q : ∀ (h2 : Heap) (k : Nat), h2.SetOf (PySem.strKind prog w) s.heap.objs.size (amid xs xs.length) xs.length → (∀ c o, s.heap.get? c = some o → h2.get? c = some o) → Q (.ref s.heap.objs.size) { s with heap := h2, toks := k }) :
    wpAny (model prog w) A (call (.type "set") [.ref t]) Q E s := by
  obtain ⟨c0, tl, mro⟩ := PySem.F.called_set.mro
  have y1 := PySem.F.called_set.made
  have y2 := PySem.F.called_set.sub
  refine wpAny_call (codeAny_of_tree (?_ : wpAny _ _ (callAny (.type "set") _) _ _ _))
  refine wpAny_pure ⟨Code.quiet_builtin _ (by decide +kernel), codeAny_builtin PySem.F.entry_type_call ?_⟩
  rw [Around.under_plain (weight_type_call_type "set" [.ref t] []) rfl]
  have y3 := PySem.F.called_set.notType
  have y4 := PySem.F.called_set.canCreate
  have y5 := PySem.F.typeCall_set_1 (.ref t)
  repeat (any_goals (first | assumption | wp_step))
  obtain ⟨D, eD⟩ : ∃ D, D = s.heap.objs.size := ⟨_, rfl⟩
  let new : Bool → Obj := fun led => { cls := .type "set", dict := none, data := .set #[] 0 (.fresh 0 0 led) }
  refine codeAny_mono (code_set_new_1 (.ref t) (E := E)
    (Q₁ := fun ob s1 => ∃ led : Bool, ob = .ref s.heap.objs.size ∧ s1 = { s with heap := s.heap.push { cls := .type "set", dict := none, data := .set #[] 0 (.fresh 0 0 led) } }) fun led => ⟨led, rfl, rfl⟩) fun r s1 hr => ?_
  cases r with
  | error e => exact hr
  | ok fl =>
  cases fl with
  | next => exact hr.elim
  | brk => exact hr.elim
  | cont => exact hr.elim
  | ret ob =>
    obtain ⟨led, rfl, rfl⟩ := hr
    obtain ⟨h1, eh1⟩ : ∃ h1, h1 = s.heap.push { cls := .type "set", dict := none, data := .set #[] 0 (.fresh 0 0 led) } := ⟨_, rfl⟩
    have hS : h1.get? s.heap.objs.size = some { cls := .type "set", dict := none, data := .set #[] 0 (.fresh 0 0 led) } := by rw [eh1]; exact Heap.get?_push_size _ rfl
    have z1 : h1.objs.size = s.heap.objs.size + 1 := by rw [eh1]; exact Heap.size_push ..
    have k1 : ∀ c o, s.heap.get? c = some o → h1.get? c = some o := fun c o e => by rw [eh1]; exact Heap.get?_push_of_some _ e
    have hT : Shared.TypeIs { s with heap := h1 } (.ref s.heap.objs.size) "set" := ⟨_, hS, rfl⟩
    rw [← eh1]
    have y6 := PySem.F.called_set.init.lookup
    have y7 := PySem.F.called_set.init.bind (.ref s.heap.objs.size)
    repeat (any_goals (first | assumption | wp_step))
    refine codeAny_mono (codeAny_call_builtin (R := wants (fun r s2 => r = .none ∧ ∃ h2 k, s2 = { s with heap := h2, toks := k } ∧ h2.SetOf (PySem.strKind prog w) s.heap.objs.size (amid xs xs.length) xs.length ∧
        ∀ c o, s.heap.get? c = some o → h2.get? c = some o) E) PySem.F.called_set.init.plain PySem.F.entry_set_init (check_set_init_1 hT ?_)) fun r2 s2 hr2 => ?_
    · obtain ⟨⟨oc, odc, oda, osl⟩, ho, hc, nn, hd⟩ := ht
      simp only at hc hd
      subst hc hd
      have ho1 := k1 _ _ ho
      have ht1 : h1.IsTuple t its := ⟨_, ho1, rfl, nn, rfl⟩
      have y8 := PySem.F.sub_tuple_set
      have y9 := PySem.F.sub_tuple_frozenset
      have y10 : (Value.type "tuple" == Value.type "dict") = false := by decide
      unfold Builtin.«set.__init__» noKeywords Builtin.Frozenset.updateFrom
      generalize hPI : pyIter = PI
      wp_walk
      subst hPI
      refine wpAny_pyIter_tuple ht1 (wpAny_bind (wpAny_runValue ?_))
      have tlt : t < s.heap.objs.size := Heap.lt_size ho
      have h3 : A.in1.in1.in1.handled = none := by simp [hh]
      have ne : t ≠ h1.objs.size := fun z => Nat.lt_irrefl s.heap.objs.size (Nat.lt_of_succ_lt (show s.heap.objs.size + 1 < s.heap.objs.size from by rw [← z1, ← z]; exact tlt))
      have out : s.heap.objs.size ∉ [h1.objs.size, t] := by
        intro z
        rcases List.mem_cons.mp z with z | z
        · exact Nat.succ_ne_self s.heap.objs.size (show s.heap.objs.size + 1 = s.heap.objs.size from by rw [← z1]; exact z.symm)
        · exact absurd (List.mem_singleton.mp z) (Nat.ne_of_gt tlt)
      have len : xs.length = its.size := by rw [← StrsAre.len_eq are, Array.length_toList]
      have item : ∀ (i : Nat) (v : Value), its[i]? = some v → ∃ x k, xs[i]? = some x ∧ v = .str x k := fun i v hv => by
        obtain ⟨k, e⟩ := SS.strs_at are i v (by rw [Array.getElem?_toList]; exact hv)
        have hi : i < xs.length := by
          have := (Array.getElem?_eq_some_iff.mp hv).1
          omega
        refine ⟨xs[i], k, List.getElem?_eq_getElem hi, ?_⟩
        rw [e, List.getD_eq_getElem?_getD, List.getElem?_eq_getElem hi]
        rfl
      refine fillU ((Walks.tuple h3 _ t ne its).toS) out u len (by omega) item its.size 0 _ (by omega) ⟨⟨_, Heap.get?_push_size _ rfl, rfl, rfl⟩, ht1.push _⟩ ?_ ?_
      · exact PyProof.Rows.SetOf_congr ((PyProof.Rows.setObjOf_fresh (knd := PySem.strKind prog w) led).setOf (Heap.get?_push_of_some _ hS) (by unfold scanBound; omega)) (fun y => by unfold amid; simp) rfl
      · rintro ⟨h4, g4, d4, k4, o4⟩ mv hS4
        obtain rfl : g4 = s.gens := mv.gens
        obtain rfl : d4 = s.drawn := mv.drawn
        obtain rfl : o4 = s.os := mv.os
        show wpAny _ _ _ _ _ _
        refine wpAny_pure ?_
        show wpAny _ _ (ret Value.none) _ _ _
        rw [← len] at hS4
        refine wpAny_pure ⟨rfl, h4, k4, rfl, hS4, fun c o e => ?_⟩
        have lt := Heap.lt_size e
        refine mv.heap c o (fun z => ?_) (Heap.get?_push_of_some _ (k1 c o e))
        rcases List.mem_cons.mp z with z | z
        · exact Nat.ne_of_lt lt z
        · exact Nat.lt_irrefl s.heap.objs.size (Nat.lt_of_succ_lt (show s.heap.objs.size + 1 < s.heap.objs.size from by rw [← z1, ← List.mem_singleton.mp z]; exact lt))
    · cases r2 with
      | error e => exact hr2
      | ok fl2 =>
      cases fl2 with
      | next => exact hr2.elim
      | brk => exact hr2.elim
      | cont => exact hr2.elim
      | ret z =>
        obtain ⟨rfl, h2, k, rfl, hS2, kp⟩ := hr2
        repeat (any_goals (first | assumption | wp_step))
        exact q _ _ hS2 kp
end
/-- len(set(t)) -/
def tLenSetU (K : PySem.W.Frag) (ta : TE) : TE := fun σ H Q => ta σ H fun x H1 => ∃ (t : Addr) (xs : List Str), x = .ref t ∧ SqT K H1 t (xs.map V.str) ∧ xs.Nodup ∧ xs.length ≤ 1000 ∧ Q (.int (xs.length : Nat)) H1
theorem pe_lenSetU {X : Cx} {a : Expr} {ta : TE} {p p2 pp pos : Pos} (hg : Gl X "len") (hm : X.mg "len" = none) (hg2 : Gl X "set") (hm2 : X.mg "set" = none) (ha : PE X a ta) (hc : X.calm = true := by rfl)
    (na : starEach [a] X.env = (false, eval a X.env) :: starEach [] X.env := by rfl) : PE X (.Call (.Name "len" p) [.Call (.Name "set" p2) [a] [] pp] [] pos) (tLenSetU X.K ta) := by
  refine ⟨fun pins s σ H Q I h => Call_ (ld_blt I hg hm boot_len ?_)⟩
  refine PyProof.Rows.callWith_builtin1 (PyProof.Rows.args_cons (Call_ (ld_blt I hg2 hm2 boot_set ?_)) rfl) rfl rfl
  refine PyProof.Rows.callWith_type1 (PyProof.Rows.args_cons (thn (ha.run pins s σ H _ I h) fun v s1 h1 => PyProof.Rows.args_nil ?_) na) na rfl
  obtain ⟨x, H1, I1, r1, t, xs, rfl, sq, u, few, q⟩ := h1
  cases r1
  obtain ⟨its, rv, ⟨ot, ho, hcl, nn, hd⟩, _⟩ := I1.tuple sq
  refine set_tupU (I1.ok.hd hc) ⟨ot, ho, hcl, nn, hd⟩ (by simpa using strsAre_of rv) u (by unfold scanBound; omega) fun h2 k hS kp => PyProof.Rows.args_nil ?_
  obtain ⟨o, es, ep, tb, e1, e2, e3, _, _, _, e4, e5⟩ := hS
  have I2 : Inv X pins σ H1 { s1 with heap := h2, toks := k } := I1.kept kp
  exact call_len_set e1 e2 e3 e4 (by rw [e5]; omega) ⟨.int xs.length, H1, I2.tok _, ⟨_, by rw [e5]⟩, q⟩
end Nm

/-! Rules: a list != [], a comprehension over a text, a written list whose later items want a token. -/
namespace Nm
open PySem PySem.Spec PyProof.Rows L2
section
variable {X : Cx}
/-- a list != an empty one -/
theorem op_neNil (hu : X.A.units + 64 < cLine) : OpR X (compareOp .NotEq) (fun x y H Q => ∃ a b xs, x = .ref a ∧ y = .ref b ∧ SqL X.K H a xs ∧ SqL X.K H b [] ∧ Q (.bl (!xs.isEmpty)) H) := by
  intro pins s σ H x y v u Q I rx ry h
  obtain ⟨a, b, xs, rfl, rfl, ha, hb, q⟩ := h
  cases rx
  cases ry
  obtain ⟨its, r1, p1, _⟩ := I.list ha
  obtain ⟨its2, r2, p2, _⟩ := I.list hb
  have e2 : its2 = [] := by
    cases r2
    rfl
  subst e2
  have hu' : X.A.units < cLine := by omega
  cases xs with
  | nil =>
    have e1 : its = [] := by
      cases r1
      rfl
    subst e1
    exact SeqAt.RcNeAt.lists (e := fun _ => true) p1.isList p2.isList rfl hu' (fun j h1 _ => absurd h1 (by simp)) X.prog X.w _ _ ⟨.bl _, H, I, rfl, q⟩
  | cons z zs =>
    have hl := r1.length
    refine SeqAt.RcNeAt.lists_lengths p1.isList p2.isList ?_ hu' X.prog X.w _ _ ⟨.bl _, H, I, rfl, q⟩
    rw [List.length_cons] at hl
    simp
    intro e
    rw [e] at hl
    simp at hl
end
theorem lc_str {x : Str} {g : TG} {tt : TT} {te : TE} {vs : List Nat} {σ : L2.St} {H1 : Hp} {D : Addr} {Qd : Hp → Prop} (Pv : Nat → Hp → Prop) (h0 : Pv 0 (L2.upd H1 D (.lst [])))
    (hs : ∀ i c H, x.cps[i]? = some c → Pv i H → g (.str ⟨#[c]⟩) (wipe σ vs) H fun σ2 H2 => wipe σ2 vs = wipe σ vs ∧ tt σ2 H2 fun b H3 =>
      if b = true then te σ2 H3 fun y H4 => ∃ acc, H4 D = some (.lst acc) ∧ acc.length < sizeLine ∧ Pv (i + 1) (L2.upd H4 D (.lst (acc ++ [y]))) else Pv (i + 1) H3) (hd : ∀ H, Pv x.cps.size H → Qd H) :
    ∃ W : Nat → Nat → Hp → Prop, (∃ m, W 0 m (L2.upd H1 D (.lst []))) ∧ ∀ i m H, W i m H →
      ((Its x).stop i H ∧ Qd H) ∨ ((Its x).go i H ∧ ∃ Nx : Hp → Prop, (∀ H', Nx H' → ∃ m', m' < m ∧ W (i + 1) m' H') ∧ ∀ v H', (Its x).yld i H v H' → g v (wipe σ vs) H' fun σ2 H2 => wipe σ2 vs = wipe σ vs ∧ tt σ2 H2 fun b H3 =>
        if b = true then te σ2 H3 fun y H4 => ∃ acc, H4 D = some (.lst acc) ∧ acc.length < sizeLine ∧ Nx (L2.upd H4 D (.lst (acc ++ [y]))) else Nx H3) := by
  refine ⟨fun i m H => m = x.cps.size - i ∧ i ≤ x.cps.size ∧ Pv i H, ⟨x.cps.size, by simp, Nat.zero_le _, h0⟩, ?_⟩
  rintro i m H ⟨rfl, hi, p⟩
  by_cases hlt : i < x.cps.size
  · refine .inr ⟨hlt, Pv (i + 1), fun H' p' => ⟨x.cps.size - (i + 1), by omega, rfl, hlt, p'⟩, fun v H' y => ?_⟩
    obtain ⟨e, c, hc, rfl⟩ := y
    subst e
    exact hs i c _ hc p
  · have e : i = x.cps.size := by omega
    subst e
    exact .inl ⟨Nat.le_refl _, hd H p⟩
/-! ### a token is out behind it -/
def PEG (X : Cx) (e : Expr) (t : TE) : Prop :=
  ∀ (pins : List (Addr × Obj)) (s : Shared) (σ : L2.St) (H : Hp) (Q : VK), Inv X pins σ H s → t σ H Q → wpAny (model X.prog X.w) X.A (eval e X.env) (fun v s1 => 1 ≤ s1.toks ∧ EP X pins σ Q v s1) X.xe s
section
variable {X : Cx} {e f : Expr} {es : List Expr} {te tf : TE} {ta : TA} {pos : Pos}
theorem peg_str {y : Str} {j : Nat} {c0 : Pos} : PEG X (.Constant (.str y) j c0) (tC (.str y)) := by
  intro pins s σ H Q I h
  exact Calls.Constant_str ⟨by show 1 ≤ s.toks + 1; omega, .str y, H, I.tok _, ⟨s.toks, rfl⟩, h⟩
theorem peg_opR {op : Operator} {r : R2} (ho : OpR X (binaryOp op) r) (ha : PE X e te) (hb : PEG X f tf) : PEG X (.BinOp e op f pos) (tOp r te tf) := by
  intro pins s σ H Q I h
  refine wpAny_BinOp (thn (ha.run pins s σ H _ I h) fun v s1 ⟨x, H1, I1, r1, q1⟩ => thn (hb pins s1 σ H1 _ I1 q1) fun u s2 ⟨hk, y, H2, I2, r2, q2⟩ => ?_)
  refine wpAny_mono (PySem.wpAny_toks (ho pins s2 σ H2 x y v u Q I2 r1 r2 q2)) (fun w s3 ⟨k3, q3⟩ => ⟨Nat.le_trans hk k3, q3⟩) fun _ _ z => z.2
theorem peg_opL {op : Operator} {r : R2} (ho : OpR X (binaryOp op) r) (ha : PEG X e te) (hb : PE X f tf) : PEG X (.BinOp e op f pos) (tOp r te tf) := by
  intro pins s σ H Q I h
  refine wpAny_BinOp (thn (ha pins s σ H _ I h) fun v s1 ⟨hk, x, H1, I1, r1, q1⟩ => ?_)
  refine wpAny_mono (PySem.wpAny_toks (hb.run pins s1 σ H1 _ I1 q1)) (fun u s2 ⟨k2, y, H2, I2, r2, q2⟩ => ?_) fun _ _ z => z.2
  refine wpAny_mono (PySem.wpAny_toks (ho pins s2 σ H2 x y v u Q I2 r1 r2 q2)) (fun w s3 ⟨k3, q3⟩ => ⟨Nat.le_trans hk (Nat.le_trans k2 k3), q3⟩) fun _ _ z => z.2
theorem pa_consG (ha : PEG X e te) (hr : PAT X es ta) (hs : starEach (e :: es) X.env = (false, eval e X.env) :: starEach es X.env := by rfl) : PA X (e :: es) (tCons te ta) := by
  refine ⟨fun pos pins s σ H Q I h => ?_⟩
  rw [hs]
  show wpAny _ _ (spliced ((false, eval e X.env) :: backTo pos (starEach es X.env))) _ _ s
  refine Calls.spliced_cons (thn (ha pins s σ H _ I h) fun v s1 ⟨hk, x, H1, I1, r1, q1⟩ => ?_)
  exact thn (hr pos pins s1 σ H1 _ hk I1 q1) fun us s2 ⟨xs, H2, I2, r2, q2⟩ => ⟨x :: xs, H2, I2, .cons r1 r2, q2⟩
end
end Nm

/-! The program's small judges: is_integer, is_number, is_name, are_letters, is_subject, is_open, is_sign; the law's: _law_is_int, _law_is_name. -/
namespace Nm
open PySem PySem.Spec PyProof.Rows L2
abbrev pInteger : Stmt := topS 5
abbrev pNumber : Stmt := topS 6
abbrev pName : Stmt := topS 10
abbrev pLetters : Stmt := topS 17
abbrev pSubject : Stmt := topS 20
abbrev pOpen : Stmt := topS 21
abbrev pSign : Stmt := topS 22
abbrev sIsInt : Stmt := topS 27
abbrev sFlag : Stmt := topS 28
abbrev sIsName : Stmt := topS 32
/-- the built-in words are still the built-in ones -/
structure WdT (mg : Str → Option Value) : Prop extends BltT mg where
  isi : mg "isinstance" = none
  tup : mg "tuple" = none
  bool : mg "bool" = none
  str : mg "str" = none
  all : mg "all" = none
  set : mg "set" = none
  list : mg "list" = none
  range : mg "range" = none
  sum : mg "sum" = none
  repr : mg "repr" = none
theorem str0_len : ∀ x ∈ strs0, x.length ≤ 9 := by decide +kernel
theorem ok_str {x : Str} (h : okd (.str x) = true) : x.length ≤ 9 := str0_len x (of_decide_eq_true h)
theorem size9 {n : Nat} (h : n ≤ 9) : n ≤ sizeLine := Nat.le_trans h (by decide)
def intD : PyData → Bool | .int _ => true | _ => false
def numD : PyData → Bool | .int i => decide (0 ≤ i) | _ => false
section
variable {P : Program} {w : World} {K : PySem.W.Frag} {mg : Str → Option Value} {base : Heap}
/-! ### is_integer, is_number -/
def spInteger : Sp := fun vs H Q _ => ∃ (b : Addr) (x : V) (d : PyData), vs = [x] ∧ DZ b H x d ∧ Q (.bl (intD d)) H
theorem scInteger : FnScope ["thing"] ["thing"] (defScope pInteger) := ⟨rfl, rfl, rfl, by decide +kernel, rfl, by decide +kernel, by decide +kernel⟩
theorem ok_integer {f : Addr} {fd : FuncData} {k : Nat} (F : Fun K "is_integer" "is_integer" pInteger f fd) (T : WdT mg) : FnOk P w K mg base CX0 (k + 1) f fd ["thing"] spInteger := by
  refine F.ok scInteger (fun vs H Q E h => ?_) (fun cdv A outer s H vs Q E hr h => ?_)
  · obtain ⟨b, x, d, rfl, _⟩ := h
    rfl
  · obtain ⟨b, x, d, rfl, hd, q⟩ := h
    refine ⟨_, pss_one (ps_ret (pe_and (pe_callB call_isi (by rfl) T.isi (by decide +kernel) (pa_cons (pv 0) (pa_cons (pe_bltn (v := .ty "int") (by rfl) T.int (by decide +kernel) rfl) pa_nil)))
      (pe_one (pe_not (pe_callB call_isi (by rfl) T.isi (by decide +kernel) (pa_cons (pv 0) (pa_cons (pe_bltn (v := .ty "bool") (by rfl) T.bool (by decide +kernel) rfl) pa_nil))))))), ?_⟩
    refine ⟨_, rfl, _, _, _, _, _, rfl, .ty "int", dz_ty hd, kit_i d, _, rfl, ?_⟩
    have fin : ∀ c : Bool, intD d = c → Q (.bl c) H := fun c e => by rw [← e]; exact q
    cases d with
    | int i =>
      refine iteT ?_
      exact ⟨_, rfl, _, _, _, _, _, rfl, .ty "bool", dz_ty hd, kit_b (.int i), _, rfl, fin _ rfl⟩
    | bool c =>
      refine iteT ?_
      exact ⟨_, rfl, _, _, _, _, _, rfl, .ty "bool", dz_ty hd, kit_b (.bool c), _, rfl, fin _ rfl⟩
    | _ => exact iteF (fin _ rfl)
structure IntT (P : Program) (w : World) (K : PySem.W.Frag) (mg : Str → Option Value) (base : Heap) where
  fI : Addr
  fdI : FuncData
  FI : FnOk P w K mg base CX0 1 fI fdI ["thing"] spInteger
  bI : Binds K fdI ["thing"] []
  gI : mg "is_integer" = some (.ref fI)
  kI : PySem.W.keepIn K (.ref fI) = true
def spNumber : Sp := fun vs H Q _ => ∃ (b : Addr) (x : V) (d : PyData), vs = [x] ∧ DZ b H x d ∧ Q (.bl (numD d)) H
theorem scNumber : FnScope ["thing"] ["thing"] (defScope pNumber) := ⟨rfl, rfl, rfl, by decide +kernel, rfl, by decide +kernel, by decide +kernel⟩
theorem ok_number {f : Addr} {fd : FuncData} (F : Fun K "is_number" "is_number" pNumber f fd) (U : IntT P w K mg base) : FnOk P w K mg base CX0 2 f fd ["thing"] spNumber := by
  refine F.ok scNumber (fun vs H Q E h => ?_) (fun cdv A outer s H vs Q E hr h => ?_)
  · obtain ⟨b, x, d, rfl, _⟩ := h
    rfl
  · obtain ⟨b, x, d, rfl, hd, q⟩ := h
    refine ⟨_, pss_one (ps_ret (pe_and (pe_call U.FI hr (by rfl) U.gI U.kI U.bI .nil pass0 (pa_cons (pv 0) pa_nil)) (pe_one (pe_cmpR op_ge (pv 0) pe_int (nomark _))))), ?_⟩
    have fin : ∀ c : Bool, numD d = c → Q (.bl c) H := fun c e => by rw [← e]; exact q
    refine ⟨_, rfl, b, x, d, rfl, hd, _, rfl, ?_⟩
    cases hd with
    | int i =>
      refine iteT ?_
      exact ⟨_, rfl, i, 0, rfl, rfl, fin _ rfl⟩
    | bl c => exact iteF (fin _ rfl)
    | non => exact iteF (fin _ rfl)
    | str x => exact iteF (fin _ rfl)
    | lst _ _ _ => exact iteF (fin _ rfl)
    | tup _ _ _ => exact iteF (fin _ rfl)
    | dic _ _ => exact iteF (fin _ rfl)
/-! ### is_name -/
def spName : Sp := fun vs H Q _ => ∃ (b : Addr) (x : V) (d : PyData), vs = [x] ∧ DZ b H x d ∧ okd d = true ∧ ∀ H', Same H H' → Q (.bl (nmD d)) H'
theorem scName : FnScope ["thing", "sign"] ["thing"] (defScope pName) := ⟨rfl, rfl, rfl, by decide +kernel, rfl, by decide +kernel, by decide +kernel⟩
/-- the comprehension over a text's signs -/
theorem name_loop {z : Str} {H : Hp} {D : Addr} (nD : H D = none) (hz : z.length ≤ 9) {g : TG} {te : TE} {vs : List Nat} {σ : L2.St} {Qd : Hp → Prop}
    (hs : ∀ (c : Nat) (G : Hp), g (.str ⟨#[c]⟩) (wipe σ vs) G fun σ2 G2 => wipe σ2 vs = wipe σ vs ∧ G2 = G ∧ ∀ R : V → Hp → Prop, R (.bl (decide (c ∈ lettersZ.cps.toList))) G → te σ2 G R)
    (hq : ∀ G, Same H G → G D = some (.lst ((z.cps.toList.map fun c => decide (c ∈ lettersZ.cps.toList)).map V.bl)) → Qd G)
    (mono : ∀ v σ1 G (R R' : L2.St → Hp → Prop), (∀ a b, R a b → R' a b) → g v σ1 G R → g v σ1 G R') :
    ∃ W : Nat → Nat → Hp → Prop, (∃ m, W 0 m (L2.upd H D (.lst []))) ∧ ∀ i m G, W i m G →
      ((Its z).stop i G ∧ Qd G) ∨ ((Its z).go i G ∧ ∃ Nx : Hp → Prop, (∀ H', Nx H' → ∃ m', m' < m ∧ W (i + 1) m' H') ∧ ∀ v H', (Its z).yld i G v H' → g v (wipe σ vs) H' fun σ2 H2 => wipe σ2 vs = wipe σ vs ∧ tYes σ2 H2 fun b H3 =>
        if b = true then te σ2 H3 fun y H4 => ∃ acc, H4 D = some (.lst acc) ∧ acc.length < sizeLine ∧ Nx (L2.upd H4 D (.lst (acc ++ [y]))) else Nx H3) := by
  refine lc_str (x := z) (fun i G => Same H G ∧ G D = some (.lst (((z.cps.toList.take i).map fun c => decide (c ∈ lettersZ.cps.toList)).map V.bl))) ⟨same_upd nD, by rw [upd_same]; rfl⟩ ?_ ?_
  · rintro i c G hc ⟨sG, hD⟩
    refine mono _ _ _ _ _ (fun σ2 G2 => ?_) (hs c G)
    rintro ⟨e1, rfl, e2⟩
    refine ⟨e1, ?_⟩
    unfold tYes
    dsimp only
    rw [if_pos rfl]
    refine e2 _ ⟨_, hD, ?_, ?_, ?_⟩
    · rw [List.length_map, List.length_map, List.length_take]
      have : z.cps.toList.length = z.length := by rw [Array.length_toList]; rfl
      exact Nat.lt_of_le_of_lt (show _ ≤ 9 by omega) (by decide)
    · intro p o hp
      rw [upd_ne (ne_of_none hp nD)]
      exact sG _ _ hp
    · have hc : z.cps.toList[i]? = some c := by rw [← hc]; exact Array.getElem?_toList
      rw [upd_same, List.take_add_one, hc, List.map_append, List.map_append]
      rfl
  · rintro G ⟨sG, hD⟩
    refine hq G sG ?_
    rw [List.take_of_length_le (by rw [Array.length_toList]; exact Nat.le_refl _)] at hD
    exact hD
theorem nmB_eq (z : Str) : nmB z = ((decide ((1 : Int) ≤ (z.length : Int)) && decide ((z.length : Int) ≤ 8)) && ((z.cps.toList.map fun c => decide (c ∈ lettersZ.cps.toList))).all id) := by
  unfold nmB
  rw [List.all_map]
  rfl
theorem ok_name {f : Addr} {fd : FuncData} {k : Nat} (F : Fun K "is_name" "is_name" pName f fd) (T : WdT mg) (mL : ∃ t, mg "LETTERS" = some (.str lettersZ t)) (mM : ∃ t, mg "MOST_LETTERS" = some (.int 8 t)) : FnOk P w K mg base CX0 (k + 1) f fd ["thing"] spName := by
  obtain ⟨t1, mL⟩ := mL
  obtain ⟨t2, mM⟩ := mM
  refine F.ok scName (fun vs H Q E h => ?_) (fun cdv A outer s H vs Q E hr h => ?_)
  · obtain ⟨b, x, d, rfl, _⟩ := h
    rfl
  · obtain ⟨b, x, d, rfl, hd, ok, q⟩ := h
    refine ⟨_, pss_cons (ps_if (PW.pt (pw_or (pt_not (pt_val (pe_callB call_isi (by rfl) T.isi (by decide +kernel) (pa_cons (pv 0) (pa_cons (pe_bltn (v := .ty "str") (by rfl) T.str (by decide +kernel) rfl) pa_nil)))))
          (pw_or1 (pt_not (pt_chain op_le op_le pe_int (pe_callB call_len_str (by rfl) T.len PySem.boot_len (pa_cons (pv 0) pa_nil)) (pe_glob (v := .int 8) (by rfl) mM ⟨_, rfl⟩)))))) (pss_one (ps_ret pe_bl)) pss_nil)
      (pss_one (ps_ret (pe_callB (cr_all rfl) (by rfl) T.all (by decide +kernel) (pa_cons
          (pe_lc (own := [("sign", 1)]) (g := gName 1) (tt := tYes) (by rfl) scName.nd (pi_str (pv 0)) (blkOk_by (N := ["thing", "sign"]) (sc := defScope pName) (by decide +kernel))
            (fun _ _ _ _ _ => pg_name (i := 1) scName.nd rfl (Or.inl rfl)) (fun _ _ _ _ _ => pts_nil) (fun _ _ _ _ _ => pe_cmpR op_in_sign (pv 1) (pe_glob (v := .str lettersZ) (by rfl) mL ⟨_, rfl⟩) (by rfl))) pa_nil)))), ?_⟩
    have fin : ∀ c : Bool, nmD d = c → Q (.bl c) H := fun c e => by rw [← e]; exact q H (Same.refl _)
    refine ⟨_, rfl, _, _, _, _, _, rfl, .ty "str", dz_ty hd, kit_s d, _, rfl, ?_⟩
    cases hd with
    | non => exact iteT (fin _ rfl)
    | bl c => exact iteT (fin _ rfl)
    | int i => exact iteT (fin _ rfl)
    | lst _ _ _ => exact iteT (fin _ rfl)
    | tup _ _ _ => exact iteT (fin _ rfl)
    | dic _ _ => exact iteT (fin _ rfl)
    | str z =>
      refine iteF ?_
      have h9 := ok_str ok
      have eB := nmB_eq z
      refine ⟨_, rfl, z, rfl, size9 h9, 1, (z.length : Int), rfl, rfl, _, rfl, ?_⟩
      refine ite2 (fun c1 => ?_) (fun c1 => ?_)
      · refine ⟨(z.length : Int), 8, rfl, rfl, _, rfl, ?_⟩
        rw [c1, Bool.true_and] at eB
        refine ite2 (fun c2 => ?_) (fun c2 => ?_)
        · have c2 : decide ((z.length : Int) ≤ 8) = false := by simpa using c2
          rw [c2, Bool.false_and] at eB
          exact fin _ eB
        · have c2 : decide ((z.length : Int) ≤ 8) = true := by simpa using c2
          rw [c2, Bool.true_and] at eB
          refine ⟨_, rfl, z, rfl, fun D nD => ?_⟩
          refine name_loop nD h9 (fun c G => ⟨rfl, rfl, fun R r => ⟨_, rfl, c, _, rfl, rfl, r⟩⟩) (fun G sG hD => ?_) (fun v σ1 G R R' i h => i _ _ h)
          refine ⟨D, _, rfl, SqL.of hD, ?_⟩
          rw [← eB]
          exact q G sG
      · have c1 : decide ((1 : Int) ≤ (z.length : Int)) = false := by simpa using c1
        rw [c1, Bool.false_and, Bool.false_and] at eB
        exact ⟨_, rfl, iteT (fin _ eB)⟩
theorem scIsName : FnScope ["thing", "sign"] ["thing"] (defScope sIsName) := ⟨rfl, rfl, rfl, by decide +kernel, rfl, by decide +kernel, by decide +kernel⟩
theorem ok_lname {f : Addr} {fd : FuncData} {k : Nat} (F : Fun K "_law_is_name" "_law_is_name" sIsName f fd) (T : WdT mg) : FnOk P w K mg base CX0 (k + 1) f fd ["thing"] spName := by
  refine F.ok scIsName (fun vs H Q E h => ?_) (fun cdv A outer s H vs Q E hr h => ?_)
  · obtain ⟨b, x, d, rfl, _⟩ := h
    rfl
  · obtain ⟨b, x, d, rfl, hd, ok, q⟩ := h
    refine ⟨_, pss_cons (ps_if (PW.pt (pw_or (pt_not (pt_val (pe_callB call_isi (by rfl) T.isi (by decide +kernel) (pa_cons (pv 0) (pa_cons (pe_bltn (v := .ty "str") (by rfl) T.str (by decide +kernel) rfl) pa_nil)))))
          (pw_or1 (pt_not (pt_chain op_le op_le pe_int (pe_callB call_len_str (by rfl) T.len PySem.boot_len (pa_cons (pv 0) pa_nil)) pe_int))))) (pss_one (ps_ret pe_bl)) pss_nil)
      (pss_one (ps_ret (pe_callB (cr_all rfl) (by rfl) T.all (by decide +kernel) (pa_cons
          (pe_lc (own := [("sign", 1)]) (g := gName 1) (tt := tYes) (by rfl) scIsName.nd (pi_str (pv 0)) (blkOk_by (N := ["thing", "sign"]) (sc := defScope sIsName) (by decide +kernel))
            (fun _ _ _ _ _ => pg_name (i := 1) scIsName.nd rfl (Or.inl rfl)) (fun _ _ _ _ _ => pts_nil) (fun _ _ _ _ _ => pe_cmpR op_in_sign (pv 1) pe_str (by rfl))) pa_nil)))), ?_⟩
    have fin : ∀ c : Bool, nmD d = c → Q (.bl c) H := fun c e => by rw [← e]; exact q H (Same.refl _)
    refine ⟨_, rfl, _, _, _, _, _, rfl, .ty "str", dz_ty hd, kit_s d, _, rfl, ?_⟩
    cases hd with
    | non => exact iteT (fin _ rfl)
    | bl c => exact iteT (fin _ rfl)
    | int i => exact iteT (fin _ rfl)
    | lst _ _ _ => exact iteT (fin _ rfl)
    | tup _ _ _ => exact iteT (fin _ rfl)
    | dic _ _ => exact iteT (fin _ rfl)
    | str z =>
      refine iteF ?_
      have h9 := ok_str ok
      have eB := nmB_eq z
      refine ⟨_, rfl, z, rfl, size9 h9, 1, (z.length : Int), rfl, rfl, _, rfl, ?_⟩
      refine ite2 (fun c1 => ?_) (fun c1 => ?_)
      · refine ⟨(z.length : Int), 8, rfl, rfl, _, rfl, ?_⟩
        rw [c1, Bool.true_and] at eB
        refine ite2 (fun c2 => ?_) (fun c2 => ?_)
        · have c2 : decide ((z.length : Int) ≤ 8) = false := by simpa using c2
          rw [c2, Bool.false_and] at eB
          exact fin _ eB
        · have c2 : decide ((z.length : Int) ≤ 8) = true := by simpa using c2
          rw [c2, Bool.true_and] at eB
          refine ⟨_, rfl, z, rfl, fun D nD => ?_⟩
          refine name_loop nD h9 (fun c G => ⟨rfl, rfl, fun R r => ⟨_, rfl, c, _, rfl, rfl, r⟩⟩) (fun G sG hD => ?_) (fun v σ1 G R R' i h => i _ _ h)
          refine ⟨D, _, rfl, SqL.of hD, ?_⟩
          rw [← eB]
          exact q G sG
      · have c1 : decide ((1 : Int) ≤ (z.length : Int)) = false := by simpa using c1
        rw [c1, Bool.false_and, Bool.false_and] at eB
        exact ⟨_, rfl, iteT (fin _ eB)⟩
end
end Nm

/-! The program's are_letters, is_subject, is_open, is_sign. -/
namespace Nm
open PySem PySem.Spec PyProof.Rows L2
theorem in_strs (z : Str) (L : List Str) : inV (.str z) (L.map V.str) = decide (z ∈ L) := by
  unfold inV
  rw [List.any_map]
  induction L with
  | nil => rfl
  | cons y L ih =>
    rw [List.any_cons, ih]
    show ((y == z) || decide (z ∈ L)) = decide (z ∈ y :: L)
    by_cases h : y = z
    · subst h; simp
    · have h2 : z ≠ y := fun e => h e.symm
      simp [h, h2]
theorem flat_strs0 (L : List Str) : (L.map V.str).all flatV = true := by
  rw [List.all_map]
  exact List.all_eq_true.mpr fun _ _ => rfl
theorem in_rg (i : Int) (n : Int) : inV (.int i) (rgV 0 n) = (decide (0 ≤ i) && decide (i ≤ n - 1)) := by
  unfold inV rgV
  rw [List.any_map]
  have e : (((fun y => eqV y (V.int i)) ∘ fun (j : Nat) => V.int (0 + (j : Int))) : Nat → Bool) = fun j : Nat => ((0 + (j : Int)) == i) := rfl
  rw [e]
  by_cases h : 0 ≤ i ∧ i ≤ n - 1
  · rw [decide_eq_true h.1, decide_eq_true h.2, Bool.true_and]
    refine List.any_eq_true.mpr ⟨i.toNat, List.mem_range.mpr (by omega), ?_⟩
    have : (0 + ((i.toNat : Nat) : Int)) = i := by omega
    rw [this]; simp
  · have e2 : (decide (0 ≤ i) && decide (i ≤ n - 1)) = false := by
      by_cases h1 : 0 ≤ i
      · rw [decide_eq_false (fun h2 => h ⟨h1, h2⟩), Bool.and_false]
      · rw [decide_eq_false h1, Bool.false_and]
    rw [e2]
    refine List.any_eq_false.mpr fun j hj => ?_
    have hj := List.mem_range.mp hj
    intro hb
    have hb : (0 + (j : Int)) = i := by simpa using hb
    omega
theorem in_rgS (z : Str) (n : Int) : inV (.str z) (rgV 0 n) = false := by
  unfold inV rgV
  rw [List.any_map]
  exact List.any_eq_false.mpr fun _ _ => by simp [eqV]
theorem flat_rg (n : Int) : (rgV 0 n).all flatV = true := by
  unfold rgV
  rw [List.all_map]
  exact List.all_eq_true.mpr fun _ _ => rfl
theorem in_sgn (i : Int) : inV (.int i) [.int (-1), .int 0, .int 1] = (decide (-1 ≤ i) && decide (i ≤ 1)) := by
  show (((-1 : Int) == i) || (((0 : Int) == i) || (((1 : Int) == i) || false))) = _
  by_cases h : -1 ≤ i ∧ i ≤ 1
  · rw [decide_eq_true h.1, decide_eq_true h.2]
    rcases (show i = -1 ∨ i = 0 ∨ i = 1 by omega) with rfl | rfl | rfl <;> rfl
  · have e1 : ((-1 : Int) == i) = false := beq_eq_false_iff_ne.mpr (by omega)
    have e2 : ((0 : Int) == i) = false := beq_eq_false_iff_ne.mpr (by omega)
    have e3 : ((1 : Int) == i) = false := beq_eq_false_iff_ne.mpr (by omega)
    rw [e1, e2, e3]
    by_cases h1 : -1 ≤ i
    · rw [decide_eq_false (fun h2 : i ≤ 1 => h ⟨h1, h2⟩)]; simp
    · rw [decide_eq_false h1]; rfl
section
variable {P : Program} {w : World} {K : PySem.W.Frag} {mg : Str → Option Value} {base : Heap}
/-! ### is_open -/
def spOpen (K : PySem.W.Frag) : Sp := fun vs H Q _ => ∃ (b t : Addr) (x : V) (d : PyData) (L : List Str), vs = [x, .ref t] ∧ DZ b H x d ∧ SqT K H t (L.map V.str) ∧ Q (.bl (strIn L d)) H
theorem scOpen : FnScope ["thing", "letters"] ["thing", "letters"] (defScope pOpen) := ⟨rfl, rfl, rfl, by decide +kernel, rfl, by decide +kernel, by decide +kernel⟩
theorem ok_open {f : Addr} {fd : FuncData} {k : Nat} (F : Fun K "is_open" "is_open" pOpen f fd) (T : WdT mg) : FnOk P w K mg base CX0 (k + 1) f fd ["thing", "letters"] (spOpen K) := by
  refine F.ok scOpen (fun vs H Q E h => ?_) (fun cdv A outer s H vs Q E hr h => ?_)
  · obtain ⟨b, t, x, d, L, rfl, _⟩ := h
    rfl
  · obtain ⟨b, t, x, d, L, rfl, hd, ht, q⟩ := h
    refine ⟨_, pss_one (ps_ret (pe_and (pe_callB call_isi (by rfl) T.isi (by decide +kernel) (pa_cons (pv 0) (pa_cons (pe_bltn (v := .ty "str") (by rfl) T.str (by decide +kernel) rfl) pa_nil)))
      (pe_one (pe_cmpR op_in_seq (pv 0) (pv 1) (by rfl))))), ?_⟩
    refine ⟨_, rfl, _, _, _, _, _, rfl, .ty "str", dz_ty hd, kit_s d, _, rfl, ?_⟩
    have fin : ∀ c : Bool, strIn L d = c → Q (.bl c) H := fun c e => by rw [← e]; exact q
    cases hd with
    | str z =>
      refine iteT ?_
      refine ⟨_, rfl, _, rfl, t, _, rfl, .inr ht, rfl, flat_strs0 L, ?_⟩
      exact fin _ (in_strs z L).symm
    | non => exact iteF (fin _ rfl)
    | bl c => exact iteF (fin _ rfl)
    | int i => exact iteF (fin _ rfl)
    | lst _ _ _ => exact iteF (fin _ rfl)
    | tup _ _ _ => exact iteF (fin _ rfl)
    | dic _ _ => exact iteF (fin _ rfl)
/-! ### is_subject -/
def spSubject (K : PySem.W.Frag) : Sp := fun vs H Q _ => ∃ (b t : Addr) (x : V) (d : PyData) (n : Int), vs = [x, .ref t] ∧ DZ b H x d ∧ SqL K H t (rgV 0 n) ∧ Q (.bl (intIn 0 (n - 1) d)) H
theorem scSubject : FnScope ["thing", "subjects"] ["thing", "subjects"] (defScope pSubject) := ⟨rfl, rfl, rfl, by decide +kernel, rfl, by decide +kernel, by decide +kernel⟩
theorem ok_subject {f : Addr} {fd : FuncData} (F : Fun K "is_subject" "is_subject" pSubject f fd) (T : WdT mg) (U : IntT P w K mg base) : FnOk P w K mg base CX0 2 f fd ["thing", "subjects"] (spSubject K) := by
  refine F.ok scSubject (fun vs H Q E h => ?_) (fun cdv A outer s H vs Q E hr h => ?_)
  · obtain ⟨b, t, x, d, n, rfl, _⟩ := h
    rfl
  · obtain ⟨b, t, x, d, n, rfl, hd, ht, q⟩ := h
    refine ⟨_, pss_one (ps_ret (pe_and (pe_or (pe_call U.FI hr (by rfl) U.gI U.kI U.bI .nil pass0 (pa_cons (pv 0) pa_nil)) (pe_one (pe_callB call_isi (by rfl) T.isi (by decide +kernel) (pa_cons (pv 0) (pa_cons (pe_bltn (v := .ty "str") (by rfl) T.str (by decide +kernel) rfl) pa_nil)))))
      (pe_one (pe_cmpR op_in_seq (pv 0) (pv 1) (by rfl))))), ?_⟩
    have fin : ∀ c : Bool, intIn 0 (n - 1) d = c → Q (.bl c) H := fun c e => by rw [← e]; exact q
    refine ⟨_, rfl, b, x, d, rfl, hd, _, rfl, ?_⟩
    cases d with
    | int i =>
      cases hd
      refine iteT ⟨_, rfl, iteT ?_⟩
      refine ⟨_, rfl, _, rfl, t, _, rfl, .inl ht, rfl, flat_rg n, ?_⟩
      exact fin _ (in_rg i n).symm
    | str z =>
      have hd2 := hd
      cases hd
      refine iteF ⟨_, rfl, _, _, _, _, _, rfl, .ty "str", dz_ty hd2, kit_s (.str z), _, rfl, iteT ?_⟩
      refine ⟨_, rfl, _, rfl, t, _, rfl, .inl ht, rfl, flat_rg n, ?_⟩
      exact fin _ (in_rgS z n).symm
    | none => exact iteF ⟨_, rfl, _, _, _, _, _, rfl, .ty "str", dz_ty hd, kit_s _, _, rfl, iteF (fin _ rfl)⟩
    | bool c => exact iteF ⟨_, rfl, _, _, _, _, _, rfl, .ty "str", dz_ty hd, kit_s _, _, rfl, iteF (fin _ rfl)⟩
    | list c => exact iteF ⟨_, rfl, _, _, _, _, _, rfl, .ty "str", dz_ty hd, kit_s _, _, rfl, iteF (fin _ rfl)⟩
    | tuple c => exact iteF ⟨_, rfl, _, _, _, _, _, rfl, .ty "str", dz_ty hd, kit_s _, _, rfl, iteF (fin _ rfl)⟩
    | dict c => exact iteF ⟨_, rfl, _, _, _, _, _, rfl, .ty "str", dz_ty hd, kit_s _, _, rfl, iteF (fin _ rfl)⟩
/-! ### is_sign -/
def spSign : Sp := fun vs H Q _ => ∃ (b : Addr) (x : V) (d : PyData), vs = [x] ∧ DZ b H x d ∧ ∀ H', Same H H' → Q (.bl (intIn (-1) 1 d)) H'
theorem scSign : FnScope ["thing"] ["thing"] (defScope pSign) := ⟨rfl, rfl, rfl, by decide +kernel, rfl, by decide +kernel, by decide +kernel⟩
theorem ok_sign {f : Addr} {fd : FuncData} (F : Fun K "is_sign" "is_sign" pSign f fd) (U : IntT P w K mg base) : FnOk P w K mg base CX0 2 f fd ["thing"] spSign := by
  refine F.ok scSign (fun vs H Q E h => ?_) (fun cdv A outer s H vs Q E hr h => ?_)
  · obtain ⟨b, x, d, rfl, _⟩ := h
    rfl
  · obtain ⟨b, x, d, rfl, hd, q⟩ := h
    refine ⟨_, pss_one (ps_ret (pe_and (pe_call U.FI hr (by rfl) U.gI U.kI U.bI .nil pass0 (pa_cons (pv 0) pa_nil))
      (pe_one (pe_cmpR op_in_seq (pv 0) (pe_tup (pa_cons (pe_un un_neg pe_int) (pa_cons pe_int (pa_cons pe_int pa_nil)))) (by rfl))))), ?_⟩
    have fin : ∀ c : Bool, intIn (-1) 1 d = c → Q (.bl c) H := fun c e => by rw [← e]; exact q H (Same.refl _)
    refine ⟨_, rfl, b, x, d, rfl, hd, _, rfl, ?_⟩
    cases hd with
    | int i =>
      refine iteT ⟨_, rfl, 1, rfl, (by show 3 ≤ sizeLine; decide), fun p hp => ⟨p, _, rfl, .inr (SqT.of upd_same), rfl, rfl, ?_⟩⟩
      have e := in_sgn i
      show Q (.bl (inV (.int i) [.int (-1), .int 0, .int 1])) _
      rw [e]
      exact q _ (same_upd hp)
    | non => exact iteF (fin _ rfl)
    | bl c => exact iteF (fin _ rfl)
    | str z => exact iteF (fin _ rfl)
    | lst _ _ _ => exact iteF (fin _ rfl)
    | tup _ _ _ => exact iteF (fin _ rfl)
    | dic _ _ => exact iteF (fin _ rfl)
/-! ### are_letters -/
structure NameT (P : Program) (w : World) (K : PySem.W.Frag) (mg : Str → Option Value) (base : Heap) where
  fN : Addr
  fdN : FuncData
  FN : FnOk P w K mg base CX0 1 fN fdN ["thing"] spName
  bN : Binds K fdN ["thing"] []
  gN : mg "is_name" = some (.ref fN)
  kN : PySem.W.keepIn K (.ref fN) = true
/-- letters that are handed in: unlike names -/
structure LtOk (L : List Str) : Prop where
  nm : ∀ x ∈ L, nmB x = true
  st : ∀ x ∈ L, x ∈ strs0
theorem LtOk.app {L : List Str} {z : Str} (h : LtOk L) (h1 : nmB z = true) (h2 : z ∈ strs0) : LtOk (L ++ [z]) :=
  ⟨fun x hx => (List.mem_append.mp hx).elim (h.nm x) fun y => by rw [List.mem_singleton.mp y]; exact h1, fun x hx => (List.mem_append.mp hx).elim (h.st x) fun y => by rw [List.mem_singleton.mp y]; exact h2⟩
def spLetters (K : PySem.W.Frag) : Sp := fun vs H Q _ => ∃ (t : Addr) (L : List Str), vs = [.ref t] ∧ SqT K H t (L.map V.str) ∧ LtOk L ∧ L.Nodup ∧ L.length ≤ 10 ∧ TyX K H (.ref t) (.type "tuple") ∧ ∀ H', Same H H' → Q (.bl true) H'
theorem scLetters : FnScope ["thing", "letter"] ["thing"] (defScope pLetters) := ⟨rfl, rfl, rfl, by decide +kernel, rfl, by decide +kernel, by decide +kernel⟩
theorem ok_letters {f : Addr} {fd : FuncData} (F : Fun K "are_letters" "are_letters" pLetters f fd) (T : WdT mg) (U : NameT P w K mg base) : FnOk P w K mg base CX0 2 f fd ["thing"] (spLetters K) := by
  refine F.ok scLetters (fun vs H Q E h => ?_) (fun cdv A outer s H vs Q E hr h => ?_)
  · obtain ⟨t, L, rfl, _⟩ := h
    rfl
  · obtain ⟨t, L, rfl, ht, lt, nd, few, ty, q⟩ := h
    refine ⟨_, pss_cons (ps_if (PW.pt (pw_or (pt_not (pt_val (pe_callB call_isi (by rfl) T.isi (by decide +kernel) (pa_cons (pv 0) (pa_cons (pe_bltn (v := .ty "tuple") (by rfl) T.tup (by decide +kernel) rfl) pa_nil)))))
          (pw_or1 (pt_not (pt_val (pe_callB (cr_all rfl) (by rfl) T.all (by decide +kernel) (pa_cons
          (pe_lc (own := [("letter", 1)]) (g := gName 1) (tt := tYes) (by rfl) scLetters.nd (pi_tup (pv 0)) (blkOk_by (N := ["thing", "letter"]) (sc := defScope pLetters) (by decide +kernel))
            (fun _ _ _ _ _ => pg_name (i := 1) scLetters.nd rfl (Or.inl rfl)) (fun _ _ _ _ _ => pts_nil) (fun _ _ _ _ _ => pe_call U.FN (by exact hr) (by rfl) U.gN U.kN U.bN .nil pass0 (pa_cons (pv 1) pa_nil))) pa_nil))))))) (pss_one (ps_ret pe_bl)) pss_nil)
      (pss_one (ps_ret (pe_cmpR op_eq (pe_lenSetU (by rfl) T.len (by rfl) T.set (pv 0)) (pe_callB call_len_seq (by rfl) T.len PySem.boot_len (pa_cons (pv 0) pa_nil)) (nomark _)))), ?_⟩
    refine ⟨_, rfl, _, _, _, _, _, rfl, .ty "tuple", ty, kit_t (.tuple []), _, rfl, ?_⟩
    refine iteF ?_
    refine ⟨.ref t, rfl, t, rfl, ⟨_, ht⟩, fun D nD => ?_⟩
    refine lc_tup (K := K) (a := t) (xs := L.map V.str) (fun i G => Same H G ∧ G D = some (.lst ((List.replicate i true).map V.bl))) ⟨same_upd nD, by rw [upd_same]; rfl⟩ (fun i G _ h => Nm.Same.seqT h.1 ht) ?_ ?_
    · rintro i x G hi ⟨sG, hD⟩
      rw [List.getElem?_map] at hi
      obtain ⟨z, hz, rfl⟩ := Option.map_eq_some_iff.mp hi
      have hm : z ∈ L := List.mem_of_getElem? hz
      have hiL : i < L.length := (List.getElem?_eq_some_iff.mp hz).1
      refine ⟨rfl, ?_⟩
      unfold tYes
      dsimp only
      rw [if_pos rfl]
      refine ⟨_, rfl, t, _, _, rfl, .str z, decide_eq_true (lt.st z hm), fun G2 s2 => ?_⟩
      have e : nmD (.str z) = true := lt.nm z hm
      rw [e]
      refine ⟨_, s2 _ _ hD, ?_, fun p o hp => ?_, ?_⟩
      · rw [List.length_map, List.length_replicate]
        exact Nat.lt_of_le_of_lt (show i ≤ 10 by omega) (by decide)
      · rw [upd_ne (ne_of_none hp nD)]
        exact s2 _ _ (sG _ _ hp)
      · rw [upd_same, List.replicate_succ', List.map_append]
        rfl
    · rintro G ⟨sG, hD⟩
      refine ⟨D, _, rfl, SqL.of hD, _, rfl, ?_⟩
      have e : ((List.replicate (L.map V.str).length true).all id) = true := List.all_eq_true.mpr fun y hy => by rw [(List.mem_replicate.mp hy).2]; rfl
      rw [e]
      refine iteF ?_
      have ht2 := Nm.Same.seqT sG ht
      refine ⟨_, rfl, t, L, rfl, ht2, nd, by omega, _, rfl, t, _, rfl, .inr ht2, ?_⟩
      have e2 : (decide (V.int (L.length : Nat) = V.int ((L.map V.str).length : Nat))) = true := by rw [List.length_map]; exact decide_eq_true rfl
      refine ⟨rfl, ?_⟩
      show Q (.bl (decide (V.int (L.length : Nat) = V.int ((L.map V.str).length : Nat)))) G
      rw [e2]
      exact q G sG
end
end Nm

/-! The program's meant_in: how many all and some, 5 and more for what is no saying. -/
namespace Nm
open PySem PySem.Spec PyProof.Rows L2
abbrev pMeant : Stmt := topS 19
theorem dec_str (w z : Str) : decide (V.str w = V.str z) = decide (w = z) := by
  by_cases h : w = z
  · rw [h]; simp
  · have : ¬ V.str w = V.str z := fun e => h (by injection e)
    rw [decide_eq_false h, decide_eq_false this]
theorem in2 (w : Str) (s t : String) : inV (.str w) [.str (Str.ofString s), .str (Str.ofString t)] = (isW w s || isW w t) := by
  show ((Str.ofString s == w) || ((Str.ofString t == w) || false)) = (decide (w = Str.ofString s) || decide (w = Str.ofString t))
  have e : ∀ y : Str, (y == w) = decide (w = y) := fun y => by
    by_cases h : y = w
    · subst h; simp
    · have h2 : ¬ w = y := fun e => h e.symm
      rw [decide_eq_false h2]; exact beq_eq_false_iff_ne.mpr h
  rw [e, e, Bool.or_false]
theorem cut1 {x : V} {xs : List V} : cutV (x :: xs) (some 1) none = xs := by
  unfold cutV
  rw [show HT.sIx (x :: xs).length 0 (some 1) = min 1 (x :: xs).length from HT.sIx_nat (x :: xs).length 0 1, HT.sIx_none, List.length_cons]
  have e : min 1 (xs.length + 1) = 1 := by omega
  rw [e]
  show (xs.take (xs.length + 1 - 1)) = xs
  exact List.take_of_length_le (by omega)
theorem cut1_ne {x : V} {xs : List V} : ¬ (HT.sIx (x :: xs).length 0 (some 1) = 0 ∧ HT.sIx (x :: xs).length (x :: xs).length none = (x :: xs).length) := by
  rw [show HT.sIx (x :: xs).length 0 (some 1) = min 1 (x :: xs).length from HT.sIx_nat (x :: xs).length 0 1, List.length_cons]
  omega
/-- what has the form of a saying at first sight -/
def shapeD : PyData → Prop | .tuple (.str _ :: rest) => 1 ≤ rest.length ∧ rest.length ≤ 3 | _ => False
theorem prog_bad {many : Int} {r : Nat} {L : List Str} {d : PyData} (h : r = 0 ∨ ¬ shapeD d) : progB many r L d = 5 := by
  cases r with
  | zero => cases d <;> rfl
  | succ r =>
    have h : ¬ shapeD d := h.resolve_left (by omega)
    match d with
    | .tuple (.str w :: []) => rfl
    | .tuple (.str w :: [x]) => exact absurd (show 1 ≤ 1 ∧ 1 ≤ 3 by omega) h
    | .tuple (.str w :: [x, y]) => exact absurd (show 1 ≤ 2 ∧ 2 ≤ 3 by omega) h
    | .tuple (.str w :: [x, y, z]) => exact absurd (show 1 ≤ 3 ∧ 3 ≤ 3 by omega) h
    | .tuple (.str w :: _ :: _ :: _ :: _ :: _) => rfl
    | .tuple [] => rfl
    | .tuple (.none :: _) => rfl
    | .tuple (.bool _ :: _) => rfl
    | .tuple (.int _ :: _) => rfl
    | .tuple (.list _ :: _) => rfl
    | .tuple (.tuple _ :: _) => rfl
    | .tuple (.dict _ :: _) => rfl
    | .none => rfl
    | .bool _ => rfl
    | .int _ => rfl
    | .str _ => rfl
    | .list _ => rfl
    | .dict _ => rfl
theorem dzs_cons {b : Addr} {H : Hp} {vs : List V} {d : PyData} {ds : List PyData} (h : DZs b H vs (d :: ds)) : ∃ x xs, vs = x :: xs ∧ DZ b H x d ∧ DZs b H xs ds := by
  cases h with
  | cons a r => exact ⟨_, _, rfl, a, r⟩
theorem dzs_nil {b : Addr} {H : Hp} {vs : List V} (h : DZs b H vs []) : vs = [] := by
  cases h
  rfl
theorem okd_tup {xs : List PyData} (h : okd (.tuple xs) = true) : ∀ x ∈ xs, okd x = true := okds_iff.mp h
section
variable {P : Program} {w : World} {K : PySem.W.Frag} {mg : Str → Option Value} {base : Heap}
structure SayT (P : Program) (w : World) (K : PySem.W.Frag) (mg : Str → Option Value) (base : Heap) extends NameT P w K mg base where
  fS : Addr
  fdS : FuncData
  FS : FnOk P w K mg base CX0 2 fS fdS ["thing", "subjects"] (spSubject K)
  bS : Binds K fdS ["thing", "subjects"] []
  gS : mg "is_subject" = some (.ref fS)
  kS : PySem.W.keepIn K (.ref fS) = true
  fO : Addr
  fdO : FuncData
  FO : FnOk P w K mg base CX0 1 fO fdO ["thing", "letters"] (spOpen K)
  bO : Binds K fdO ["thing", "letters"] []
  gO : mg "is_open" = some (.ref fO)
  kO : PySem.W.keepIn K (.ref fO) = true
  fG : Addr
  fdG : FuncData
  FG : FnOk P w K mg base CX0 2 fG fdG ["thing"] spSign
  bG : Binds K fdG ["thing"] []
  gG : mg "is_sign" = some (.ref fG)
  kG : PySem.W.keepIn K (.ref fG) = true
  mD : ∃ t, mg "MOST_DEEP" = some (.int 8 t)
  mM : ∃ t, mg "MOST_MEANT" = some (.int 4 t)
  mN : ∃ t, mg "NO_SAYING" = some (.int 5 t)
def spMeant (K : PySem.W.Frag) (n : Nat) : Sp := fun vs H Q _ => ∃ (b su t : Addr) (x : V) (many : Int) (r : Nat) (L : List Str) (d : PyData), vs = [.ref su, .ref t, x, .int (9 - (r : Int))] ∧ SqL K H su (rgV 0 many) ∧ SqT K H t (L.map V.str) ∧
  DZ b H x d ∧ okd d = true ∧ r < n ∧ L.length + r ≤ 1000 ∧ ∀ H', Same H H' → Q (.int ((progB many r L d : Nat) : Int)) H'
abbrev nMeant : List Str := ["subjects", "letters", "thing", "deep", "word", "inner"]
abbrev aMeant : List Str := ["subjects", "letters", "thing", "deep"]
theorem scMeant : FnScope nMeant aMeant (defScope pMeant) := ⟨rfl, rfl, rfl, by decide +kernel, rfl, by decide +kernel, by decide +kernel⟩
theorem ok_meant {f : Addr} {fd : FuncData} (F : Fun K "meant_in" "meant_in" pMeant f fd) (T : WdT mg) (U : SayT P w K mg base) (bF : Binds K fd aMeant []) (gF : mg "meant_in" = some (.ref f)) : ∀ n, FnOk P w K mg base CX0 (n + 3) f fd aMeant (spMeant K n) := by
  obtain ⟨t1, mD⟩ := U.mD
  obtain ⟨t2, mN⟩ := U.mN
  intro n
  induction n with
  | zero =>
    refine ⟨fun vs H Q E h => ?_, fun A outer s H args us vs Q E hr he hb hv h => ?_⟩
    · obtain ⟨b, su, t, x, many, r, L, d, rfl, _⟩ := h
      rfl
    · obtain ⟨b, su, t, x, many, r, L, d, rfl, _, _, _, _, z, _⟩ := h
      exact absurd z (Nat.not_lt_zero _)
  | succ n ih =>
    refine F.ok scMeant (fun vs H Q E h => ?_) (fun cdv A outer s H vs Q E hr h => ?_)
    · obtain ⟨b, su, t, x, many, r, L, d, rfl, _⟩ := h
      rfl
    · obtain ⟨b, su, t, x, many, r, L, d, rfl, hsu, ht, hd, ok, hrn, few, q⟩ := h
      have hr1 : Room 1 _ := hr.mono (by omega)
      have hr2 : Room 2 _ := hr.mono (by omega)
      have hr3 : Room (n + 3) _ := hr
      refine ⟨_, pss_cut (ps_if (PW.pt (pw_or (pt_cmpR op_gt (pv 3) (pe_glob (v := .int 8) (by rfl) mD ⟨_, rfl⟩) (nomark _))
            (pw_or (pt_not (pt_val (pe_callB call_isi (by rfl) T.isi (by decide +kernel) (pa_cons (pv 2) (pa_cons (pe_bltn (v := .ty "tuple") (by rfl) T.tup (by decide +kernel) rfl) pa_nil)))))
            (pw_or (pt_not (pt_chain op_le op_le pe_int (pe_callB call_len_seq (by rfl) T.len PySem.boot_len (pa_cons (pv 2) pa_nil)) pe_int))
            (pw_or1 (pt_not (pt_val (pe_callB call_isi (by rfl) T.isi (by decide +kernel) (pa_cons (pe_ix ix_tup (pv 2) pe_int (fun _ _ => rfl)) (pa_cons (pe_bltn (v := .ty "str") (by rfl) T.str (by decide +kernel) rfl) pa_nil))))))))))
          (pss_one (ps_ret (pe_glob (v := .int 5) (by rfl) mN ⟨_, rfl⟩))) pss_nil)
        (pss_cons (ps_set (i := 4) scMeant.nd rfl (.inl rfl) (pe_ix ix_tup (pv 2) pe_int (fun _ _ => rfl)))
        (pss_cut (ps_if (PW.pt (pw_and (pt_cmpR op_eq (pv 4) pe_str (nomark _)) (pw_and1 (pt_cmpR op_eq (pe_callB call_len_seq (by rfl) T.len PySem.boot_len (pa_cons (pv 2) pa_nil)) pe_int (nomark _)))))
          (pss_one (ps_ret (pe_call ih hr3 (by rfl) gF F.kp bF .nil pass0 (pa_cons (pv 0) (pa_cons (pv 1) (pa_cons (pe_ix ix_tup (pv 2) pe_int (fun _ _ => rfl)) (pa_cons (pe_op op_add (pv 3) pe_int) pa_nil))))))) pss_nil)
        (pss_cut (ps_if (PW.pt (pw_and (pt_cmpR op_eq (pv 4) pe_str (nomark _)) (pw_and1 (pt_cmpR op_eq (pe_callB call_len_seq (by rfl) T.len PySem.boot_len (pa_cons (pv 2) pa_nil)) pe_int (nomark _)))))
          (pss_one (ps_ret (pe_ifExp (PW.pt (pw_and (pt_val (pe_call U.FS hr2 (by rfl) U.gS U.kS U.bS .nil pass0 (pa_cons (pe_ix ix_tup (pv 2) pe_int (fun _ _ => rfl)) (pa_cons (pv 0) pa_nil))))
            (pw_and (pt_val (pe_call U.FO hr1 (by rfl) U.gO U.kO U.bO .nil pass0 (pa_cons (pe_ix ix_tup (pv 2) pe_int (fun _ _ => rfl)) (pa_cons (pv 1) pa_nil))))
            (pw_and1 (pt_val (pe_call U.FG hr2 (by rfl) U.gG U.kG U.bG .nil pass0 (pa_cons (pe_ix ix_tup (pv 2) pe_int (fun _ _ => rfl)) pa_nil)))))))
            pe_int (pe_glob (v := .int 5) (by rfl) mN ⟨_, rfl⟩)))) pss_nil)
        (pss_cut (ps_if (pt_cmpR op_ne (pe_callB call_len_seq (by rfl) T.len PySem.boot_len (pa_cons (pv 2) pa_nil)) pe_int (nomark _)) (pss_one (ps_ret (pe_glob (v := .int 5) (by rfl) mN ⟨_, rfl⟩))) pss_nil)
        (pss_cut (ps_if (pt_cmpR op_in_seq (pv 4) (pe_tup (pa_cons pe_str (pa_cons pe_str pa_nil))) (by rfl))
          (pss_one (ps_ret (pe_ifExp (PW.pt (pw_and (pt_val (pe_call U.FO hr1 (by rfl) U.gO U.kO U.bO .nil pass0 (pa_cons (pe_ix ix_tup (pv 2) pe_int (fun _ _ => rfl)) (pa_cons (pv 1) pa_nil))))
            (pw_and1 (pt_val (pe_call U.FO hr1 (by rfl) U.gO U.kO U.bO .nil pass0 (pa_cons (pe_ix ix_tup (pv 2) pe_int (fun _ _ => rfl)) (pa_cons (pv 1) pa_nil)))))))
            pe_int (pe_glob (v := .int 5) (by rfl) mN ⟨_, rfl⟩)))) pss_nil)
        (pss_cut (ps_if (pt_cmpR op_in_seq (pv 4) (pe_tup (pa_cons pe_str (pa_cons pe_str pa_nil))) (by rfl))
          (pss_one (ps_ret (pe_callB (cr_sum rfl) (by rfl) T.sum (by decide +kernel) (pa_cons
            (pe_lc (own := [("inner", 5)]) (g := gName 5) (tt := tYes) (by rfl) scMeant.nd (pi_tup (pe_slice sl_tup (pv 2) (po_some pe_int) po_none)) (blkOk_by (N := nMeant) (sc := defScope pMeant) (by decide +kernel))
              (fun _ _ _ _ _ => pg_name (i := 5) scMeant.nd rfl (Or.inl rfl)) (fun _ _ _ _ _ => pts_nil)
              (fun _ _ _ _ _ => pe_call ih (by exact hr3) (by rfl) gF F.kp bF .nil pass0 (pa_cons (pv 0) (pa_cons (pv 1) (pa_cons (pv 5) (pa_cons (pe_op op_add (pv 3) pe_int) pa_nil)))))) pa_nil)))) pss_nil)
        (pss_cut (ps_if (PW.pt (pw_and (pt_cmpR op_in_seq (pv 4) (pe_tup (pa_cons pe_str (pa_cons pe_str pa_nil))) (by rfl)) (pw_and1 (pt_val (pe_call U.FN hr1 (by rfl) U.gN U.kN U.bN .nil pass0 (pa_cons (pe_ix ix_tup (pv 2) pe_int (fun _ _ => rfl)) pa_nil))))))
          (pss_one (ps_ret (pe_op op_add pe_int (pe_call ih hr3 (by rfl) gF F.kp bF .nil pass0 (pa_cons (pv 0) (pa_cons (pe_tup (StX.pa_star (pv 1) (pa_cons (pe_ix ix_tup (pv 2) pe_int (fun _ _ => rfl)) pa_nil))) (pa_cons (pe_ix ix_tup (pv 2) pe_int (fun _ _ => rfl)) (pa_cons (pe_op op_add (pv 3) pe_int) pa_nil)))))))) pss_nil)
        (pss_one (ps_ret (pe_glob (v := .int 5) (by rfl) mN ⟨_, rfl⟩)))))))))), ?_⟩
      have bad : (r = 0 ∨ ¬ shapeD d) → Q (.int 5) H := fun z => by
        have q := q H (Same.refl _)
        rw [prog_bad z] at q
        exact q
      -- what has not the form
      refine ⟨fun σ G => G = H ∧ σ = [some (.ref su), some (.ref t), some x, some (.int (9 - (r : Int))), none, none] ∧ r ≠ 0 ∧ shapeD d, ?_, ?_⟩
      · refine ⟨_, rfl, 9 - (r : Int), 8, rfl, rfl, _, rfl, ?_⟩
        refine ite2 (fun c => bad (.inl ?_)) (fun c => ?_)
        · have c : (8 : Int) < 9 - (r : Int) := of_decide_eq_true c
          omega
        have r0 : r ≠ 0 := fun z => c (decide_eq_true (show (8 : Int) < 9 - (r : Int) by omega))
        refine ⟨_, rfl, _, _, _, _, _, rfl, .ty "tuple", dz_ty hd, kit_t d, _, rfl, ?_⟩
        cases d with
        | none => exact iteT (bad (.inr fun z => z))
        | bool c => exact iteT (bad (.inr fun z => z))
        | int i => exact iteT (bad (.inr fun z => z))
        | str z => exact iteT (bad (.inr fun z => z))
        | list z => exact iteT (bad (.inr fun z => z))
        | dict z => exact iteT (bad (.inr fun z => z))
        | tuple ds =>
          refine iteF ?_
          cases hd with
          | @tup a xs _ na ha hx =>
          have hl := hx.len
          refine ⟨_, rfl, a, xs, rfl, .inr (SqT.of ha), 2, (xs.length : Int), rfl, rfl, _, rfl, ?_⟩
          refine ite2 (fun c1 => ?_) (fun c1 => ?_)
          · have c1 : (2 : Int) ≤ (xs.length : Int) := of_decide_eq_true c1
            refine ⟨(xs.length : Int), 4, rfl, rfl, _, rfl, ?_⟩
            refine ite2 (fun c2 => bad (.inr fun z => ?_)) (fun c2 => ?_)
            · have c2 : ¬ (xs.length : Int) ≤ 4 := fun y => by rw [decide_eq_true y] at c2; cases c2
              match ds, z, hl with
              | .str w :: rest, z, hl =>
                have z : 1 ≤ rest.length ∧ rest.length ≤ 3 := z
                rw [List.length_cons] at hl
                omega
            · have c2 : (xs.length : Int) ≤ 4 := Decidable.byContradiction fun y => c2 (by rw [decide_eq_false y]; rfl)
              match ds, hx, hl, bad with
              | [], hx, hl, bad =>
                exfalso
                rw [dzs_nil hx] at c1
                exact absurd c1 (by decide)
              | d0 :: rest, hx, hl, bad =>
                obtain ⟨x0, xr, rfl, h0, hxr⟩ := dzs_cons hx
                refine ⟨_, rfl, a, _, 0, x0, rfl, rfl, SqT.of ha, atI_nat (j := 0) rfl, _, _, _, _, _, rfl, .ty "str", dz_ty h0, kit_s d0, _, rfl, ?_⟩
                have hlr := hxr.len
                rw [List.length_cons] at c1 c2
                cases d0 with
                | str w => exact iteF ⟨rfl, rfl, r0, show 1 ≤ rest.length ∧ rest.length ≤ 3 by omega⟩
                | none => exact iteT (bad (.inr fun z => z))
                | bool c => exact iteT (bad (.inr fun z => z))
                | int i => exact iteT (bad (.inr fun z => z))
                | list z => exact iteT (bad (.inr fun z => z))
                | tuple z => exact iteT (bad (.inr fun z => z))
                | dict z => exact iteT (bad (.inr fun z => z))
          · have c1 : ¬ (2 : Int) ≤ (xs.length : Int) := fun y => c1 (decide_eq_true y)
            refine ⟨_, rfl, iteT (bad (.inr fun z => ?_))⟩
            match ds, z, hl with
            | .str w :: rest, z, hl =>
              have z : 1 ≤ rest.length ∧ rest.length ≤ 3 := z
              rw [List.length_cons] at hl
              omega
      rintro σ G ⟨rfl, rfl, r0, shape⟩
      obtain ⟨r, rfl⟩ : ∃ m, r = m + 1 := ⟨r - 1, by omega⟩
      obtain ⟨wd, rest, rfl, s1, s3⟩ : ∃ wd rest, d = .tuple (.str wd :: rest) ∧ 1 ≤ rest.length ∧ rest.length ≤ 3 := by
        match d, shape with
        | .tuple (.str wd :: rest), z => exact ⟨wd, rest, rfl, z.1, z.2⟩
      cases hd with
      | @tup a xs0 _ na ha hx0 =>
      obtain ⟨x0, xs, rfl, h0, hx⟩ := dzs_cons hx0
      cases h0
      have hl := hx.len
      have okr : ∀ e ∈ rest, okd e = true := fun e he => okd_tup ok e (List.mem_cons_of_mem _ he)
      have deep : (9 : Int) - ((r + 1 : Nat) : Int) + 1 = 9 - (r : Int) := by omega
      have q : ∀ H', Same G H' → Q (.int ((progT many (progB many r) L wd rest : Nat) : Int)) H' := q
      refine ⟨_, rfl, a, _, 0, .str wd, rfl, rfl, SqT.of ha, atI_nat (j := 0) rfl, ?_⟩
      have args : ∀ y : V, [V.ref su, V.ref t, y, V.int (9 - ((r + 1 : Nat) : Int) + 1)] = [V.ref su, V.ref t, y, V.int (9 - (r : Int))] := fun y => by rw [deep]
      obtain ⟨σ1, eσ⟩ : ∃ σ1 : L2.St, σ1 = [some (.ref su), some (.ref t), some (.ref a), some (.int (9 - ((r + 1 : Nat) : Int))), some (.str wd), none] := ⟨_, rfl⟩
      have lenE : ∀ m : Nat, decide (V.int (((V.str wd :: xs).length : Nat) : Int) = V.int ((m + 1 : Nat) : Int)) = decide (rest.length = m) := fun m => by
        by_cases h : rest.length = m
        · rw [decide_eq_true h, decide_eq_true]
          rw [List.length_cons, hl, h]
        · rw [decide_eq_false h, decide_eq_false]
          intro e
          injection e with e
          rw [List.length_cons, hl] at e
          omega
      -- "not"
      refine ⟨fun σ H1 => H1 = G ∧ σ = σ1 ∧ (rest.length = 1 → isW wd "not" = false), ?_, ?_⟩
      · refine ⟨_, rfl, rfl, _, rfl, ?_⟩
        show ite _ _ _
        refine ite2 (fun c => ?_) (fun c => ⟨rfl, eσ.symm, fun _ => ?_⟩)
        · rw [dec_str] at c
          refine ⟨_, rfl, a, _, rfl, .inr (SqT.of ha), rfl, _, rfl, ?_⟩
          refine ite2 (fun c2 => ?_) (fun c2 => ⟨rfl, eσ.symm, fun z => absurd ((lenE 1).trans (decide_eq_true z)) c2⟩)
          have c2 : rest.length = 1 := of_decide_eq_true ((lenE 1).symm.trans c2)
          obtain ⟨d1, rfl⟩ : ∃ d1, rest = [d1] := by
            match rest, c2 with
            | [d1], _ => exact ⟨d1, rfl⟩
          obtain ⟨x1, xr, rfl, h1, hn⟩ := dzs_cons hx
          obtain rfl := dzs_nil hn
          refine ⟨_, rfl, _, rfl, _, rfl, a, _, 1, x1, rfl, rfl, SqT.of ha, rfl, _, rfl, _, 1, rfl, rfl, ?_⟩
          refine ⟨b, su, t, x1, many, r, L, d1, args x1, hsu, ht, h1, okr d1 (by simp), by omega, by omega, fun H' s' => ?_⟩
          have q := q H' s'
          have e : progT many (progB many r) L wd [d1] = progB many r L d1 := if_pos c
          rw [e] at q
          exact q
        · rw [dec_str] at c
          exact (Bool.not_eq_true _).mp c
      rintro σ H1 ⟨rfl, e1, nNot⟩
      rw [e1, eσ]
      -- "is"
      refine ⟨fun σ H2 => H2 = H1 ∧ σ = σ1 ∧ (rest.length = 3 → isW wd "is" = false), ?_, ?_⟩
      · refine ⟨_, rfl, rfl, _, rfl, ?_⟩
        show ite _ _ _
        refine ite2 (fun c => ?_) (fun c => ⟨rfl, eσ.symm, fun _ => ?_⟩)
        · rw [dec_str] at c
          refine ⟨_, rfl, a, _, rfl, .inr (SqT.of ha), rfl, _, rfl, ?_⟩
          refine ite2 (fun c2 => ?_) (fun c2 => ⟨rfl, eσ.symm, fun z => absurd ((lenE 3).trans (decide_eq_true z)) c2⟩)
          have c2 : rest.length = 3 := of_decide_eq_true ((lenE 3).symm.trans c2)
          obtain ⟨d1, d2, d3, rfl⟩ : ∃ d1 d2 d3, rest = [d1, d2, d3] := by
            match rest, c2 with
            | [d1, d2, d3], _ => exact ⟨d1, d2, d3, rfl⟩
          obtain ⟨x1, xr, rfl, h1, hn⟩ := dzs_cons hx
          obtain ⟨x2, xr, rfl, h2, hn⟩ := dzs_cons hn
          obtain ⟨x3, xr, rfl, h3, hn⟩ := dzs_cons hn
          obtain rfl := dzs_nil hn
          have e : progT many (progB many r) L wd [d1, d2, d3] = if (intIn 0 (many - 1) d1 && strIn L d2) && intIn (-1) 1 d3 then 0 else 5 := if_pos c
          rw [e] at q
          refine ⟨_, rfl, a, _, 1, x1, rfl, rfl, SqT.of ha, rfl, _, rfl, b, su, x1, d1, many, rfl, h1, hsu, _, rfl, ?_⟩
          refine ite2 (fun k1 => ?_) (fun k1 => ?_)
          · rw [k1, Bool.true_and] at q
            refine ⟨_, rfl, a, _, 2, x2, rfl, rfl, SqT.of ha, rfl, _, rfl, b, t, x2, d2, L, rfl, h2, ht, _, rfl, ?_⟩
            refine ite2 (fun k2 => ?_) (fun k2 => ?_)
            · rw [k2, Bool.true_and] at q
              refine ⟨_, rfl, a, _, 3, x3, rfl, rfl, SqT.of ha, rfl, b, x3, d3, rfl, h3, fun H' s' => ⟨_, rfl, ?_⟩⟩
              have q := q H' s'
              refine ite2 (fun k3 => ?_) (fun k3 => ?_)
              · rw [if_pos k3] at q
                exact q
              · rw [if_neg k3] at q
                exact q
            · have k2 : strIn L d2 = false := (Bool.not_eq_true _).mp k2
              rw [k2, Bool.false_and] at q
              exact iteF (q _ (Same.refl _))
          · have k1 : intIn 0 (many - 1) d1 = false := (Bool.not_eq_true _).mp k1
            rw [k1, Bool.false_and, Bool.false_and] at q
            exact iteF (q _ (Same.refl _))
        · rw [dec_str] at c
          exact (Bool.not_eq_true _).mp c
      rintro σ H2 ⟨rfl, e2, nIs⟩
      rw [e2, eσ]
      -- no three
      refine ⟨fun σ H3 => H3 = H2 ∧ σ = σ1 ∧ rest.length = 2, ?_, ?_⟩
      · refine ⟨_, rfl, a, _, rfl, .inr (SqT.of ha), rfl, _, rfl, ?_⟩
        refine ite2 (fun c => ?_) (fun c => ⟨rfl, eσ.symm, ?_⟩)
        · have c : rest.length ≠ 2 := fun z => by
            have z2 := (lenE 2).trans (decide_eq_true z)
            simp only [Nat.reduceAdd] at z2
            rw [show decide (V.int (((V.str wd :: xs).length : Nat) : Int) = V.int 3) = true from z2] at c
            cases c
          have e : progT many (progB many r) L wd rest = 5 := by
            match rest, c, s1, s3, nNot, nIs with
            | [d1], _, _, _, n1, _ => exact if_neg (by rw [n1 rfl]; simp)
            | [d1, d2], c, _, _, _, _ => exact absurd rfl c
            | [d1, d2, d3], _, _, _, _, n3 => exact if_neg (by rw [n3 rfl]; simp)
          have q := q H2 (Same.refl _)
          rw [e] at q
          exact q
        · refine Decidable.byContradiction fun z => c ?_
          have z2 := (lenE 2).trans (decide_eq_false z)
          show (!decide (V.int (((V.str wd :: xs).length : Nat) : Int) = V.int 3)) = true
          rw [show decide (V.int (((V.str wd :: xs).length : Nat) : Int) = V.int 3) = false from z2]
          rfl
      rintro σ H3 ⟨rfl, e3, two⟩
      rw [e3, eσ]
      obtain ⟨d1, d2, rfl⟩ : ∃ d1 d2, rest = [d1, d2] := by
        match rest, two with
        | [d1, d2], _ => exact ⟨d1, d2, rfl⟩
      obtain ⟨x1, xr, rfl, h1, hn⟩ := dzs_cons hx
      obtain ⟨x2, xr, rfl, h2, hn⟩ := dzs_cons hn
      obtain rfl := dzs_nil hn
      have e0 : progT many (progB many r) L wd [d1, d2] = if isW wd "ahead" || isW wd "same" then (if strIn L d1 && strIn L d2 then 0 else 5)
          else if isW wd "and" || isW wd "or" then progB many r L d1 + progB many r L d2
          else if isW wd "all" || isW wd "some" then progA (progB many r) L d2 d1 else 5 := rfl
      rw [e0] at q
      have ok1 := okr d1 (by simp)
      have ok2 := okr d2 (by simp)
      -- "ahead", "same"
      refine ⟨fun σ G => Same H3 G ∧ σ = σ1 ∧ (isW wd "ahead" || isW wd "same") = false, ?_, ?_⟩
      · refine ⟨_, rfl, (by show 2 ≤ sizeLine; decide), fun p hp => ⟨p, _, rfl, .inr (SqT.of upd_same), rfl, rfl, _, rfl, ?_⟩⟩
        have sp : Same H3 (upd H3 p (.tup [.str (Str.ofString "ahead"), .str (Str.ofString "same")])) := same_upd hp
        generalize upd H3 p (.tup [.str (Str.ofString "ahead"), .str (Str.ofString "same")]) = G at sp
        have ei := in2 wd "ahead" "same"
        show (if inV (.str wd) [.str (Str.ofString "ahead"), .str (Str.ofString "same")] = true then _ else _)
        rw [ei]
        refine ite2 (fun c => ?_) (fun c => ⟨sp, eσ.symm, (Bool.not_eq_true _).mp c⟩)
        have ha := sp _ _ ha
        have q : ∀ H', Same H3 H' → Q (.int (((if strIn L d1 && strIn L d2 then 0 else 5 : Nat)) : Int)) H' := fun H' s' => by
          have q := q H' s'
          rw [if_pos c] at q
          exact q
        refine ⟨_, rfl, a, _, 1, x1, rfl, rfl, SqT.of ha, rfl, _, rfl, b, t, x1, d1, L, rfl, h1.same sp, Nm.Same.seqT sp ht, _, rfl, ?_⟩
        refine ite2 (fun k1 => ?_) (fun k1 => ?_)
        · rw [k1, Bool.true_and] at q
          refine ⟨_, rfl, a, _, 2, x2, rfl, rfl, SqT.of ha, rfl, _, rfl, b, t, x2, d2, L, rfl, h2.same sp, Nm.Same.seqT sp ht, _, rfl, ?_⟩
          have q := q G sp
          refine ite2 (fun k2 => ?_) (fun k2 => ?_)
          · rw [if_pos k2] at q
            exact q
          · rw [if_neg k2] at q
            exact q
        · have k1 : strIn L d1 = false := (Bool.not_eq_true _).mp k1
          rw [k1, Bool.false_and] at q
          exact iteF (q _ sp)
      rintro σ H4 ⟨s4, e4, nAh⟩
      rw [e4, eσ]
      rw [nAh] at q
      replace q : ∀ H', Same H3 H' → Q (.int (((if isW wd "and" || isW wd "or" then progB many r L d1 + progB many r L d2 else if isW wd "all" || isW wd "some" then progA (progB many r) L d2 d1 else 5 : Nat)) : Int)) H' := q
      -- "and", "or"
      refine ⟨fun σ G => Same H3 G ∧ σ = σ1 ∧ (isW wd "and" || isW wd "or") = false, ?_, ?_⟩
      · refine ⟨_, rfl, (by show 2 ≤ sizeLine; decide), fun p hp => ⟨p, _, rfl, .inr (SqT.of upd_same), rfl, rfl, _, rfl, ?_⟩⟩
        have sp : Same H3 (upd H4 p (.tup [.str (Str.ofString "and"), .str (Str.ofString "or")])) := s4.trans (same_upd hp)
        generalize upd H4 p (.tup [.str (Str.ofString "and"), .str (Str.ofString "or")]) = G at sp
        have ei := in2 wd "and" "or"
        show (if inV (.str wd) [.str (Str.ofString "and"), .str (Str.ofString "or")] = true then _ else _)
        rw [ei]
        refine ite2 (fun c => ?_) (fun c => ⟨sp, eσ.symm, (Bool.not_eq_true _).mp c⟩)
        have ha1 := sp _ _ ha
        have q : ∀ H', Same H3 H' → Q (.int ((progB many r L d1 + progB many r L d2 : Nat) : Int)) H' := fun H' s' => by
          have q := q H' s'
          rw [if_pos c] at q
          exact q
        refine ⟨.ref a, rfl, 1, rfl, a, _, rfl, SqT.of ha1, cut1_ne, fun u hu => ⟨u, rfl, ⟨_, SqT.of upd_same⟩, ?_⟩⟩
        rw [cut1]
        have su1 : Same H3 (upd G u (.tup [x1, x2])) := sp.trans (same_upd hu)
        have hu1 : upd G u (.tup [x1, x2]) u = some (.tup [x1, x2]) := upd_same
        generalize upd G u (.tup [x1, x2]) = G2 at su1 hu1
        intro D hD
        have nu : u ≠ D := ne_of_none hu1 hD
        refine lc_tup (K := K) (a := u) (xs := [x1, x2]) (fun i G3 => Same G2 G3 ∧ G3 D = some (.lst ((([((progB many r L d1 : Nat) : Int), ((progB many r L d2 : Nat) : Int)]).take i).map V.int))) ⟨same_upd hD, by rw [upd_same]; rfl⟩ (fun i G3 _ h => Nm.Same.seqT h.1 (SqT.of hu1)) ?_ ?_
        · rintro i y G3 hy ⟨sG, hDG⟩
          have s3G : Same H3 G3 := su1.trans sG
          obtain ⟨e, he, hye, oke⟩ : ∃ e, ([((progB many r L d1 : Nat) : Int), ((progB many r L d2 : Nat) : Int)])[i]? = some ((progB many r L e : Nat) : Int) ∧ DZ b H3 y e ∧ okd e = true := by
            match i, hy with
            | 0, hy =>
              obtain rfl := Option.some.inj hy
              exact ⟨d1, rfl, h1, ok1⟩
            | 1, hy =>
              obtain rfl := Option.some.inj hy
              exact ⟨d2, rfl, h2, ok2⟩
            | i + 2, hy => exact absurd hy (by simp)
          have hi : i < 2 := by
            have := (List.getElem?_eq_some_iff.mp hy).1
            exact this
          refine ⟨rfl, ?_⟩
          unfold tYes
          dsimp only
          rw [if_pos rfl]
          refine ⟨_, rfl, _, rfl, _, rfl, _, rfl, _, 1, rfl, rfl, ?_⟩
          refine ⟨b, su, t, y, many, r, L, e, args y, s3G.seq hsu, Nm.Same.seqT s3G ht, hye.same s3G, oke, by omega, by omega, fun G4 s4 => ?_⟩
          refine ⟨_, s4 _ _ hDG, ?_, fun c o hc => ?_, ?_⟩
          · rw [List.length_map, List.length_take]
            exact Nat.lt_of_le_of_lt (show _ ≤ 2 by simp; omega) (by decide)
          · rw [upd_ne (ne_of_none hc hD)]
            exact s4 _ _ (sG _ _ hc)
          · rw [upd_same, List.take_add_one, he, List.map_append]
            rfl
        · rintro G3 ⟨sG, hDG⟩
          refine ⟨D, _, rfl, SqL.of hDG, ?_⟩
          have q := q G3 (su1.trans sG)
          have e : ([((progB many r L d1 : Nat) : Int), ((progB many r L d2 : Nat) : Int)].take [x1, x2].length).sum = ((progB many r L d1 + progB many r L d2 : Nat) : Int) := by
            show ((progB many r L d1 : Nat) : Int) + (((progB many r L d2 : Nat) : Int) + 0) = _
            omega
          rw [e]
          exact q
      rintro σ H5 ⟨s5, e5, nAnd⟩
      rw [e5, eσ]
      rw [nAnd] at q
      replace q : ∀ H', Same H3 H' → Q (.int (((if isW wd "all" || isW wd "some" then progA (progB many r) L d2 d1 else 5 : Nat)) : Int)) H' := q
      -- "all", "some"
      refine ⟨fun σ G => Same H3 G ∧ σ = σ1 ∧ Q (.int 5) G, ?_, ?_⟩
      · refine ⟨_, rfl, (by show 2 ≤ sizeLine; decide), fun p hp => ⟨p, _, rfl, .inr (SqT.of upd_same), rfl, rfl, _, rfl, ?_⟩⟩
        have sp : Same H3 (upd H5 p (.tup [.str (Str.ofString "all"), .str (Str.ofString "some")])) := s5.trans (same_upd hp)
        generalize upd H5 p (.tup [.str (Str.ofString "all"), .str (Str.ofString "some")]) = G at sp
        have ei := in2 wd "all" "some"
        show (if inV (.str wd) [.str (Str.ofString "all"), .str (Str.ofString "some")] = true then _ else _)
        rw [ei]
        refine ite2 (fun c => ?_) (fun c => ⟨sp, eσ.symm, ?_⟩)
        · have q : ∀ H', Same H3 H' → Q (.int ((progA (progB many r) L d2 d1 : Nat) : Int)) H' := fun H' s' => by
            have q := q H' s'
            rw [if_pos c] at q
            exact q
          have ha1 := sp _ _ ha
          refine ⟨_, rfl, a, _, 1, x1, rfl, rfl, SqT.of ha1, rfl, b, x1, d1, rfl, h1.same sp, ok1, fun G2 s2 => ⟨_, rfl, ?_⟩⟩
          have s2' : Same H3 G2 := sp.trans s2
          refine ite2 (fun k => ?_) (fun k => ?_)
          · obtain ⟨z, rfl⟩ : ∃ z, d1 = .str z := by
              cases d1 with
              | str z => exact ⟨z, rfl⟩
              | _ => cases k
            have e : progA (progB many r) L d2 (.str z) = 1 + progB many r (L ++ [z]) d2 := if_pos k
            rw [e] at q
            cases h1
            have ha2 := s2 _ _ ha1
            refine ⟨_, rfl, _, rfl, t, _, rfl, .inl (Nm.Same.seqT s2' ht), _, rfl, a, _, 1, .str z, rfl, rfl, SqT.of ha2, rfl, ?_, fun u hu => ?_⟩
            · rw [List.length_append, List.length_map]
              exact Nat.le_trans (show L.length + 1 ≤ 1000 by omega) (by decide)
            have su1 : Same H3 (upd G2 u (.tup (L.map V.str ++ [V.str z]))) := s2'.trans (same_upd hu)
            have hu1 : upd G2 u (.tup (L.map V.str ++ [V.str z])) u = some (.tup ((L ++ [z]).map V.str)) := by rw [upd_same, List.map_append]; rfl
            show tCons _ _ _ (upd G2 u (.tup (L.map V.str ++ [V.str z]))) _
            generalize upd G2 u (.tup (L.map V.str ++ [V.str z])) = G3 at su1 hu1
            have ha3 := su1 _ _ ha
            refine ⟨_, rfl, a, _, 2, x2, rfl, rfl, SqT.of ha3, rfl, _, rfl, _, 1, rfl, rfl, ?_⟩
            refine ⟨b, su, u, x2, many, r, L ++ [z], d2, ?_, su1.seq hsu, SqT.of hu1, h2.same su1, ok2, by omega, ?_, fun G4 s4 => ?_⟩
            · show [V.ref su, V.ref u, x2, V.int (9 - ((r + 1 : Nat) : Int) + 1)] = _
              rw [deep]
            · rw [List.length_append, List.length_singleton]; omega
            · refine ⟨1, _, rfl, rfl, ?_⟩
              have q := q G4 (su1.trans s4)
              have e2 : (1 : Int) + ((progB many r (L ++ [z]) d2 : Nat) : Int) = ((1 + progB many r (L ++ [z]) d2 : Nat) : Int) := by omega
              show Q (.int ((1 : Int) + ((progB many r (L ++ [z]) d2 : Nat) : Int))) G4
              rw [e2]
              exact q
          · refine ⟨s2', eσ.symm, ?_⟩
            have e : progA (progB many r) L d2 d1 = 5 := by
              cases d1 with
              | str z => exact if_neg k
              | _ => rfl
            rw [e] at q
            exact q G2 s2'
        · have q := q G sp
          rw [if_neg c] at q
          exact q
      rintro σ H6 ⟨s6, e6, q5⟩
      exact q5
end
end Nm

/-! The program's is_saying_over, is_saying; the law's _law_is_int, _law_flag. -/
namespace Nm
open PySem PySem.Spec PyProof.Rows L2
abbrev pSaying : Stmt := topS 16
abbrev pOver : Stmt := topS 18
theorem ps_never {X : Cx} {st : Stmt} : PS X st (fun _ _ _ => False) := ⟨fun _ _ _ _ _ _ h => h.elim⟩
section
variable {P : Program} {w : World} {K : PySem.W.Frag} {mg : Str → Option Value} {base : Heap}
structure OvrT (P : Program) (w : World) (K : PySem.W.Frag) (mg : Str → Option Value) (base : Heap) where
  fM : Addr
  fdM : FuncData
  FM : ∀ n, FnOk P w K mg base CX0 (n + 3) fM fdM aMeant (spMeant K n)
  bM : Binds K fdM aMeant []
  gM : mg "meant_in" = some (.ref fM)
  kM : PySem.W.keepIn K (.ref fM) = true
  mM : ∃ t, mg "MOST_MEANT" = some (.int 4 t)
def spOver (K : PySem.W.Frag) : Sp := fun vs H Q _ => ∃ (b su t : Addr) (x : V) (many : Int) (L : List Str) (d : PyData), vs = [.ref su, .ref t, x] ∧ SqL K H su (rgV 0 many) ∧ SqT K H t (L.map V.str) ∧
  DZ b H x d ∧ okd d = true ∧ L.length ≤ 900 ∧ ∀ H', Same H H' → Q (.bl (decide (progB many 8 L d ≤ 4))) H'
theorem scOver : FnScope ["subjects", "letters", "thing"] ["subjects", "letters", "thing"] (defScope pOver) := ⟨rfl, rfl, rfl, by decide +kernel, rfl, by decide +kernel, by decide +kernel⟩
theorem ok_over {f : Addr} {fd : FuncData} (F : Fun K "is_saying_over" "is_saying_over" pOver f fd) (U : OvrT P w K mg base) : FnOk P w K mg base CX0 13 f fd ["subjects", "letters", "thing"] (spOver K) := by
  obtain ⟨t1, mM⟩ := U.mM
  refine F.ok scOver (fun vs H Q E h => ?_) (fun cdv A outer s H vs Q E hr h => ?_)
  · obtain ⟨b, su, t, x, many, L, d, rfl, _⟩ := h
    rfl
  · obtain ⟨b, su, t, x, many, L, d, rfl, hsu, ht, hd, ok, few, q⟩ := h
    have hr2 : Room (9 + 3) _ := hr
    refine ⟨_, pss_one (ps_ret (pe_cmpR op_le (pe_call (U.FM 9) hr2 (by rfl) U.gM U.kM U.bM .nil pass0 (pa_cons (pv 0) (pa_cons (pv 1) (pa_cons (pv 2) (pa_cons pe_int pa_nil))))) (pe_glob (v := .int 4) (by rfl) mM ⟨_, rfl⟩) (nomark _))), ?_⟩
    refine ⟨_, rfl, _, rfl, _, rfl, b, su, t, x, many, 8, L, d, rfl, hsu, ht, hd, ok, by decide, by omega, fun H' s' => ⟨_, 4, rfl, rfl, ?_⟩⟩
    have e : decide (((progB many 8 L d : Nat) : Int) ≤ 4) = decide (progB many 8 L d ≤ 4) := by
      by_cases h : progB many 8 L d ≤ 4
      · rw [decide_eq_true h, decide_eq_true (by omega)]
      · rw [decide_eq_false h, decide_eq_false (by omega)]
    show Q (.bl (decide (((progB many 8 L d : Nat) : Int) ≤ 4))) H'
    rw [e]
    exact q H' s'
structure SygT (P : Program) (w : World) (K : PySem.W.Frag) (mg : Str → Option Value) (base : Heap) where
  fN : Addr
  fdN : FuncData
  FN : FnOk P w K mg base CX0 2 fN fdN ["thing"] spNumber
  bN : Binds K fdN ["thing"] []
  gN : mg "is_number" = some (.ref fN)
  kN : PySem.W.keepIn K (.ref fN) = true
  fA : Addr
  fdA : FuncData
  FA : FnOk P w K mg base CX0 2 fA fdA ["thing"] (spLetters K)
  bA : Binds K fdA ["thing"] []
  gA : mg "are_letters" = some (.ref fA)
  kA : PySem.W.keepIn K (.ref fA) = true
  fO : Addr
  fdO : FuncData
  FO : FnOk P w K mg base CX0 13 fO fdO ["subjects", "letters", "thing"] (spOver K)
  bO : Binds K fdO ["subjects", "letters", "thing"] []
  gO : mg "is_saying_over" = some (.ref fO)
  kO : PySem.W.keepIn K (.ref fO) = true
  mC : ∃ t, mg "MOST_CURVES" = some (.int 5 t)
def spSaying (K : PySem.W.Frag) : Sp := fun vs H Q _ => ∃ (b t : Addr) (x : V) (many : Int) (L : List Str) (d : PyData), vs = [.int many, .ref t, x] ∧ 0 ≤ many ∧ many ≤ 5 ∧ H t = some (.tup (L.map V.str)) ∧
  LtOk L ∧ L.Nodup ∧ L.length ≤ 10 ∧ DZ b H x d ∧ okd d = true ∧ ∀ H', Same H H' → Q (.bl (decide (progB many 8 L d ≤ 4))) H'
theorem scSaying : FnScope ["many", "letters", "thing"] ["many", "letters", "thing"] (defScope pSaying) := ⟨rfl, rfl, rfl, by decide +kernel, rfl, by decide +kernel, by decide +kernel⟩
theorem ok_saying {f : Addr} {fd : FuncData} (F : Fun K "is_saying" "is_saying" pSaying f fd) (T : WdT mg) (U : SygT P w K mg base) : FnOk P w K mg base CX0 14 f fd ["many", "letters", "thing"] (spSaying K) := by
  obtain ⟨t1, mC⟩ := U.mC
  refine F.ok scSaying (fun vs H Q E h => ?_) (fun cdv A outer s H vs Q E hr h => ?_)
  · obtain ⟨b, t, x, many, L, d, rfl, _⟩ := h
    rfl
  · obtain ⟨b, t, x, many, L, d, rfl, m0, m5, ht, lt, nd, few, hd, ok, q⟩ := h
    have hr2 : Room 2 _ := hr.mono (by decide)
    refine ⟨_, pss_cons (ps_if (PW.pt (pw_or (pt_not (pt_val (pe_call U.FN hr2 (by rfl) U.gN U.kN U.bN .nil pass0 (pa_cons (pv 0) pa_nil)))) (pw_or1 (pt_cmpR op_gt (pv 0) (pe_glob (v := .int 5) (by rfl) mC ⟨_, rfl⟩) (nomark _))))) (pss_one ps_never) pss_nil)
      (pss_cons (ps_if (pt_not (pt_val (pe_call U.FA hr2 (by rfl) U.gA U.kA U.bA .nil pass0 (pa_cons (pv 1) pa_nil)))) (pss_one ps_never) pss_nil)
      (pss_one (ps_ret (pe_call U.FO hr (by rfl) U.gO U.kO U.bO .nil pass0 (pa_cons (pe_listRg (by rfl) (by rfl) T.list (prg_1 (by rfl) T.range (pv 0))) (pa_cons (pv 1) (pa_cons (pv 2) pa_nil))))))), ?_⟩
    refine ⟨_, rfl, b, .int many, .int many, rfl, .int many, _, rfl, ?_⟩
    have e : numD (.int many) = true := decide_eq_true m0
    rw [e]
    refine iteF ⟨_, rfl, many, 5, rfl, rfl, _, rfl, ?_⟩
    refine ite2 (fun c => ?_) (fun c => ?_)
    · have c : (5 : Int) < many := of_decide_eq_true c
      omega
    refine ⟨_, rfl, t, L, rfl, SqT.of ht, lt, nd, few, .base (.tup ht), fun H1 s1 => ⟨_, rfl, iteF ?_⟩⟩
    refine ⟨_, rfl, many, rfl, RgOk.of_le (by decide) (by omega) (by decide) m0, fun su hsu => ?_⟩
    have s2 : Same H (upd H1 su (.lst (rgV 0 many))) := s1.trans (same_upd hsu)
    exact ⟨_, rfl, _, rfl, b, su, t, x, many, L, d, rfl, SqL.of upd_same, SqT.of (s2 _ _ ht), hd.same s2, ok, by omega, fun H' s' => q H' (s2.trans s')⟩
/-! ### _law_is_int, _law_flag -/
def spIsInt : Sp := fun vs H Q _ => ∃ (b : Addr) (x : V) (d : PyData) (lo hi : Int), vs = [x, .int lo, .int hi] ∧ DZ b H x d ∧ Q (.bl (intIn lo hi d)) H
theorem scIsInt : FnScope ["thing", "least", "most"] ["thing", "least", "most"] (defScope sIsInt) := ⟨rfl, rfl, rfl, by decide +kernel, rfl, by decide +kernel, by decide +kernel⟩
theorem ok_isint {f : Addr} {fd : FuncData} {k : Nat} (F : Fun K "_law_is_int" "_law_is_int" sIsInt f fd) (T : WdT mg) : FnOk P w K mg base CX0 (k + 1) f fd ["thing", "least", "most"] spIsInt := by
  refine F.ok scIsInt (fun vs H Q E h => ?_) (fun cdv A outer s H vs Q E hr h => ?_)
  · obtain ⟨b, x, d, lo, hi, rfl, _⟩ := h
    rfl
  · obtain ⟨b, x, d, lo, hi, rfl, hd, q⟩ := h
    refine ⟨_, pss_one (ps_ret (pe_and (pe_callB call_isi (by rfl) T.isi (by decide +kernel) (pa_cons (pv 0) (pa_cons (pe_bltn (v := .ty "int") (by rfl) T.int (by decide +kernel) rfl) pa_nil)))
      (pe_and (pe_not (pe_callB call_isi (by rfl) T.isi (by decide +kernel) (pa_cons (pv 0) (pa_cons (pe_bltn (v := .ty "bool") (by rfl) T.bool (by decide +kernel) rfl) pa_nil))))
      (pe_one (pe_chain op_le op_le (pv 1) (pv 0) (pv 2)))))), ?_⟩
    refine ⟨_, rfl, _, _, _, _, _, rfl, .ty "int", dz_ty hd, kit_i d, _, rfl, ?_⟩
    have fin : ∀ c : Bool, intIn lo hi d = c → Q (.bl c) H := fun c e => by rw [← e]; exact q
    cases d with
    | int i =>
      have hd2 := hd
      cases hd
      refine iteT ⟨_, rfl, _, _, _, _, _, rfl, .ty "bool", dz_ty hd2, kit_b (.int i), _, rfl, _, rfl, iteT ?_⟩
      refine ⟨_, rfl, _, rfl, lo, i, rfl, rfl, _, rfl, ?_⟩
      have e : intIn lo hi (.int i) = (decide (lo ≤ i) && decide (i ≤ hi)) := rfl
      refine ite2 (fun c => ?_) (fun c => ?_)
      · rw [c, Bool.true_and] at e
        exact ⟨_, rfl, i, hi, rfl, rfl, fin _ e⟩
      · have c : decide (lo ≤ i) = false := (Bool.not_eq_true _).mp c
        rw [c, Bool.false_and] at e
        exact fin _ e
    | bool c =>
      refine iteT ⟨_, rfl, _, _, _, _, _, rfl, .ty "bool", dz_ty hd, kit_b (.bool c), _, rfl, _, rfl, iteF (fin _ rfl)⟩
    | _ => exact iteF (fin _ rfl)
def spFlag : Sp := fun vs H Q _ => ∃ a c : Bool, vs = [.bl a, .bl c] ∧ Q (.bl (a == c)) H
theorem scFlag : FnScope ["given", "due"] ["given", "due"] (defScope sFlag) := ⟨rfl, rfl, rfl, by decide +kernel, rfl, by decide +kernel, by decide +kernel⟩
theorem ok_flag {f : Addr} {fd : FuncData} {k : Nat} (F : Fun K "_law_flag" "_law_flag" sFlag f fd) (T : WdT mg) : FnOk P w K mg base CX0 (k + 1) f fd ["given", "due"] spFlag := by
  refine F.ok scFlag (fun vs H Q E h => ?_) (fun cdv A outer s H vs Q E hr h => ?_)
  · obtain ⟨a, c, rfl, _⟩ := h
    rfl
  · obtain ⟨a, c, rfl, q⟩ := h
    refine ⟨_, pss_one (ps_ret (pe_and (pe_callB call_isi (by rfl) T.isi (by decide +kernel) (pa_cons (pv 0) (pa_cons (pe_bltn (v := .ty "bool") (by rfl) T.bool (by decide +kernel) rfl) pa_nil)))
      (pe_one (pe_cmpR op_eq (pv 0) (pv 1) (nomark _))))), ?_⟩
    refine ⟨_, rfl, _, _, _, _, _, rfl, .ty "bool", dz_ty (.bl a : DZ 0 H (.bl a) (.bool a)), kit_b (.bool a), _, rfl, iteT ?_⟩
    refine ⟨_, rfl, _, rfl, rfl, ?_⟩
    have e : decide (V.bl a = V.bl c) = (a == c) := by cases a <;> cases c <;> rfl
    show Q (.bl (decide (V.bl a = V.bl c))) H
    rw [e]
    exact q
end
end Nm

/-! The law's own judge: _law_bound, _law_is_one. -/
namespace Nm
open PySem PySem.Spec PyProof.Rows L2
abbrev sBound : Stmt := topS 33
abbrev sIsOne : Stmt := topS 34
theorem op_in_seqC {X : Cx} {K : PySem.W.Frag} (e : X.K = K) : OpR X (compareOp .In) (rIn K false) := by
  subst e
  exact op_in_seq
def optV : Option Nat → V | some n => .int ((n : Nat) : Int) | none => .non
theorem opt_flat (o : Option Nat) : flatV (optV o) = true := by cases o <;> rfl
theorem opt_non (o : Option Nat) : eqV (optV o) .non = o.isNone := by cases o <;> rfl
theorem law_bad {many : Int} {r : Nat} {L : List Str} {d : PyData} (h : r = 0 ∨ ∀ w rest, d ≠ .tuple (.str w :: rest)) : lawB many r L d = none := by
  cases r with
  | zero => cases d <;> rfl
  | succ r =>
    have h := h.resolve_left (by omega)
    match d with
    | .tuple (.str w :: rest) => exact absurd rfl (h w rest)
    | .tuple [] => rfl
    | .tuple (.none :: _) => rfl
    | .tuple (.bool _ :: _) => rfl
    | .tuple (.int _ :: _) => rfl
    | .tuple (.list _ :: _) => rfl
    | .tuple (.tuple _ :: _) => rfl
    | .tuple (.dict _ :: _) => rfl
    | .none => rfl
    | .bool _ => rfl
    | .int _ => rfl
    | .str _ => rfl
    | .list _ => rfl
    | .dict _ => rfl
theorem lawA_no {rec : List Str → PyData → Option Nat} {L : List Str} {y x : PyData} (h : nmD x = false) : lawA rec L y x = none := by
  cases x with
  | str z => exact if_neg (by rw [show nmB z = false from h]; simp)
  | _ => rfl
theorem in_non2 (o p : Option Nat) : inV .non [optV o, optV p] = (o.isNone || p.isNone) := by
  show (eqV (optV o) .non || (eqV (optV p) .non || false)) = _
  rw [opt_non, opt_non, Bool.or_false]
section
variable {P : Program} {w : World} {K : PySem.W.Frag} {mg : Str → Option Value} {base : Heap}
structure JdgT (P : Program) (w : World) (K : PySem.W.Frag) (mg : Str → Option Value) (base : Heap) where
  fI : Addr
  fdI : FuncData
  FI : FnOk P w K mg base CX0 1 fI fdI ["thing", "least", "most"] spIsInt
  bI : Binds K fdI ["thing", "least", "most"] []
  gI : mg "_law_is_int" = some (.ref fI)
  kI : PySem.W.keepIn K (.ref fI) = true
  fN : Addr
  fdN : FuncData
  FN : FnOk P w K mg base CX0 1 fN fdN ["thing"] spName
  bN : Binds K fdN ["thing"] []
  gN : mg "_law_is_name" = some (.ref fN)
  kN : PySem.W.keepIn K (.ref fN) = true
def spBound (n : Nat) : Sp := fun vs H Q _ => ∃ (b t : Addr) (x : V) (many : Int) (r : Nat) (L : List Str) (d : PyData), vs = [.int many, .ref t, x, .int ((r : Nat) : Int)] ∧ H t = some (.lst (L.map V.str)) ∧
  DZ b H x d ∧ okd d = true ∧ r < n ∧ L.length + r ≤ 1000 ∧ ∀ H', Same H H' → Q (optV (lawB many r L d)) H'
abbrev nBound : List Str := ["many", "letters", "thing", "room", "word", "good", "parts", "part", "letter"]
abbrev aBound : List Str := ["many", "letters", "thing", "room"]
theorem scBound : FnScope nBound aBound (defScope sBound) := ⟨rfl, rfl, rfl, by decide +kernel, rfl, by decide +kernel, by decide +kernel⟩
theorem ok_bound {f : Addr} {fd : FuncData} (F : Fun K "_law_bound" "_law_bound" sBound f fd) (T : WdT mg) (U : JdgT P w K mg base) (bF : Binds K fd aBound []) (gF : mg "_law_bound" = some (.ref f)) : ∀ n, FnOk P w K mg base CX0 (n + 3) f fd aBound (spBound n) := by
  intro n
  induction n with
  | zero =>
    refine ⟨fun vs H Q E h => ?_, fun A outer s H args us vs Q E hr he hb hv h => ?_⟩
    · obtain ⟨b, t, x, many, r, L, d, rfl, _⟩ := h
      rfl
    · obtain ⟨b, t, x, many, r, L, d, rfl, _, _, _, z, _⟩ := h
      exact absurd z (Nat.not_lt_zero _)
  | succ n ih =>
    refine F.ok scBound (fun vs H Q E h => ?_) (fun cdv A outer s H vs Q E hr h => ?_)
    · obtain ⟨b, t, x, many, r, L, d, rfl, _⟩ := h
      rfl
    · obtain ⟨b, t, x, many, r, L, d, rfl, ht, hd, ok, hrn, few, q⟩ := h
      have hr1 : Room 1 _ := hr.mono (by omega)
      have hr3 : Room (n + 3) _ := hr
      refine ⟨_, pss_cut (ps_if (PW.pt (pw_or (pt_not (pt_val (pe_callB call_isi (by rfl) T.isi (by decide +kernel) (pa_cons (pv 2) (pa_cons (pe_bltn (v := .ty "tuple") (by rfl) T.tup (by decide +kernel) rfl) pa_nil)))))
            (pw_or (pt_cmpR op_eq (pe_callB call_len_seq (by rfl) T.len PySem.boot_len (pa_cons (pv 2) pa_nil)) pe_int (nomark _))
            (pw_or (pt_not (pt_val (pe_callB call_isi (by rfl) T.isi (by decide +kernel) (pa_cons (pe_ix ix_tup (pv 2) pe_int (fun _ _ => rfl)) (pa_cons (pe_bltn (v := .ty "str") (by rfl) T.str (by decide +kernel) rfl) pa_nil)))))
            (pw_or1 (pt_cmpR op_eq (pv 3) pe_int (nomark _)))))))
          (pss_one (ps_ret pe_non)) pss_nil)
        (pss_cons (ps_set (i := 4) scBound.nd rfl (.inl rfl) (pe_ix ix_tup (pv 2) pe_int (fun _ _ => rfl)))
        (pss_cut (ps_if (PW.pt (pw_and (pt_cmpR op_eq (pv 4) pe_str (nomark _)) (pw_and1 (pt_cmpR op_eq (pe_callB call_len_seq (by rfl) T.len PySem.boot_len (pa_cons (pv 2) pa_nil)) pe_int (nomark _)))))
          (pss_cut (ps_set (i := 5) scBound.nd rfl (.inl rfl) (pe_and (pe_call U.FI hr1 (by rfl) U.gI U.kI U.bI .nil pass0 (pa_cons (pe_ix ix_tup (pv 2) pe_int (fun _ _ => rfl)) (pa_cons pe_int (pa_cons (pe_op op_sub (pv 0) pe_int) pa_nil))))
              (pe_and (pe_call U.FN hr1 (by rfl) U.gN U.kN U.bN .nil pass0 (pa_cons (pe_ix ix_tup (pv 2) pe_int (fun _ _ => rfl)) pa_nil))
              (pe_one (pe_cmpR op_in_seq (pe_ix ix_tup (pv 2) pe_int (fun _ _ => rfl)) (pv 1) (by rfl))))))
          (pss_one (ps_ret (pe_ifExp (PW.pt (pw_and (pt_val (pv 5)) (pw_and1 (pt_val (pe_call U.FI hr1 (by rfl) U.gI U.kI U.bI .nil pass0 (pa_cons (pe_ix ix_tup (pv 2) pe_int (fun _ _ => rfl)) (pa_cons (pe_un un_neg pe_int) (pa_cons pe_int pa_nil)))))))) pe_int pe_non)))) pss_nil)
        (pss_cut (ps_if (PW.pt (pw_and (pt_cmpR op_in_seq (pv 4) (pe_lst (pa_cons pe_str (pa_cons pe_str pa_nil))) (by rfl)) (pw_and1 (pt_cmpR op_eq (pe_callB call_len_seq (by rfl) T.len PySem.boot_len (pa_cons (pv 2) pa_nil)) pe_int (nomark _)))))
          (pss_one (ps_ret (pe_ifExp (pt_val (pe_callB (cr_all rfl) (by rfl) T.all (by decide +kernel) (pa_cons
              (pe_lc (own := [("letter", 8)]) (g := gName 8) (tt := tYes) (by rfl) scBound.nd (pi_tup (pe_slice sl_tup (pv 2) (po_some pe_int) po_none)) (blkOk_by (N := nBound) (sc := defScope sBound) (by decide +kernel))
              (fun _ _ _ _ _ => pg_name (i := 8) scBound.nd rfl (Or.inl rfl)) (fun _ _ _ _ _ => pts_nil)
              (fun _ _ _ _ _ => pe_and (pe_call U.FN (by exact hr1) (by rfl) U.gN U.kN U.bN .nil pass0 (pa_cons (pv 8) pa_nil)) (pe_one (pe_cmpR (op_in_seqC (K := K) rfl) (pv 8) (pv 1) (by rfl))))) pa_nil))) pe_int pe_non))) pss_nil)
        (pss_cut (ps_if (PW.pt (pw_and (pt_cmpR op_eq (pv 4) pe_str (nomark _)) (pw_and1 (pt_cmpR op_eq (pe_callB call_len_seq (by rfl) T.len PySem.boot_len (pa_cons (pv 2) pa_nil)) pe_int (nomark _)))))
          (pss_one (ps_ret (pe_call ih hr3 (by rfl) gF F.kp bF .nil pass0 (pa_cons (pv 0) (pa_cons (pv 1) (pa_cons (pe_ix ix_tup (pv 2) pe_int (fun _ _ => rfl)) (pa_cons (pe_op op_sub (pv 3) pe_int) pa_nil))))))) pss_nil)
        (pss_cut (ps_if (PW.pt (pw_and (pt_cmpR op_in_seq (pv 4) (pe_lst (pa_cons pe_str (pa_cons pe_str pa_nil))) (by rfl)) (pw_and1 (pt_cmpR op_eq (pe_callB call_len_seq (by rfl) T.len PySem.boot_len (pa_cons (pv 2) pa_nil)) pe_int (nomark _)))))
          (pss_cons (ps_setLc (i := 6) (own := [("part", 7)]) (g := gName 7) (tt := tYes) (by rfl) scBound.nd rfl rfl (sw_true rfl rfl rfl (by decide +kernel)) (pi_tup (pe_slice sl_tup (pv 2) (po_some pe_int) po_none))
            (blkOk_by (N := nBound) (sc := defScope sBound) (by decide +kernel)) (fun _ _ _ _ _ => pg_name (i := 7) scBound.nd rfl (Or.inl rfl)) (fun _ _ _ _ _ => pts_nil)
            (fun _ _ _ _ _ => pe_call ih (by exact hr3) (by rfl) gF F.kp bF .nil pass0 (pa_cons (pv 0) (pa_cons (pv 1) (pa_cons (pv 7) (pa_cons (pe_op op_sub (pv 3) pe_int) pa_nil))))))
          (pss_one (ps_ret (pe_ifExp (pt_cmpR op_in_seq pe_non (pv 6) (by rfl)) pe_non (pe_callB (cr_sum rfl) (by rfl) T.sum (by decide +kernel) (pa_cons (pv 6) pa_nil)))))) pss_nil)
        (pss_cut (ps_if (PW.pt (pw_and (pt_cmpR op_in_seq (pv 4) (pe_lst (pa_cons pe_str (pa_cons pe_str pa_nil))) (by rfl)) (pw_and (pt_cmpR op_eq (pe_callB call_len_seq (by rfl) T.len PySem.boot_len (pa_cons (pv 2) pa_nil)) pe_int (nomark _))
            (pw_and1 (pt_val (pe_call U.FN hr1 (by rfl) U.gN U.kN U.bN .nil pass0 (pa_cons (pe_ix ix_tup (pv 2) pe_int (fun _ _ => rfl)) pa_nil)))))))
          (pss_cons (ps_set (i := 7) scBound.nd rfl (.inl rfl) (pe_call ih hr3 (by rfl) gF F.kp bF .nil pass0 (pa_cons (pv 0) (pa_cons (pe_op op_cat (pv 1) (pe_lst (pa_cons (pe_ix ix_tup (pv 2) pe_int (fun _ _ => rfl)) pa_nil))) (pa_cons (pe_ix ix_tup (pv 2) pe_int (fun _ _ => rfl)) (pa_cons (pe_op op_sub (pv 3) pe_int) pa_nil))))))
          (pss_one (ps_ret (pe_ifExp (pt_cmpR op_isN (pv 7) pe_non (nomark _)) pe_non (pe_op op_add pe_int (pv 7)))))) pss_nil)
        (pss_one (ps_ret pe_non)))))))), ?_⟩
      have bad : (r = 0 ∨ ∀ w rest, d ≠ .tuple (.str w :: rest)) → Q .non H := fun z => by
        have q := q H (Same.refl _)
        rw [law_bad z] at q
        exact q
      refine ⟨fun σ G => G = H ∧ σ = [some (.int many), some (.ref t), some x, some (.int ((r : Nat) : Int)), none, none, none, none, none] ∧ r ≠ 0 ∧ ∃ wd rest, d = .tuple (.str wd :: rest), ?_, ?_⟩
      · refine ⟨_, rfl, _, _, _, _, _, rfl, .ty "tuple", dz_ty hd, kit_t d, _, rfl, ?_⟩
        cases d with
        | none => exact iteT (bad (.inr fun _ _ z => nomatch z))
        | bool c => exact iteT (bad (.inr fun _ _ z => nomatch z))
        | int i => exact iteT (bad (.inr fun _ _ z => nomatch z))
        | str z => exact iteT (bad (.inr fun _ _ z => nomatch z))
        | list z => exact iteT (bad (.inr fun _ _ z => nomatch z))
        | dict z => exact iteT (bad (.inr fun _ _ z => nomatch z))
        | tuple ds =>
          refine iteF ?_
          cases hd with
          | @tup a xs _ na ha hx =>
          refine ⟨_, rfl, a, xs, rfl, .inr (SqT.of ha), rfl, _, rfl, ?_⟩
          match ds, hx, bad with
          | [], hx, bad =>
            obtain rfl := dzs_nil hx
            exact iteT (bad (.inr fun _ _ z => nomatch z))
          | d0 :: rest, hx, bad =>
            obtain ⟨x0, xr, rfl, h0, hxr⟩ := dzs_cons hx
            refine ite2 (fun c => ?_) (fun _ => ?_)
            · have c := of_decide_eq_true c
              injection c with c
              rw [List.length_cons] at c
              omega
            refine ⟨_, rfl, a, _, 0, x0, rfl, rfl, SqT.of ha, atI_nat (j := 0) rfl, _, _, _, _, _, rfl, .ty "str", dz_ty h0, kit_s d0, _, rfl, ?_⟩
            cases d0 with
            | str w =>
              refine iteF ⟨_, rfl, rfl, _, rfl, ?_⟩
              refine ite2 (fun c => bad (.inl ?_)) (fun c => ⟨rfl, rfl, fun z => c ?_, w, rest, rfl⟩)
              · have c := of_decide_eq_true c
                injection c with c
                omega
              · rw [z]; exact decide_eq_true rfl
            | none => exact iteT (bad (.inr fun _ _ z => nomatch z))
            | bool c => exact iteT (bad (.inr fun _ _ z => nomatch z))
            | int i => exact iteT (bad (.inr fun _ _ z => nomatch z))
            | list z => exact iteT (bad (.inr fun _ _ z => nomatch z))
            | tuple z => exact iteT (bad (.inr fun _ _ z => nomatch z))
            | dict z => exact iteT (bad (.inr fun _ _ z => nomatch z))
      rintro σ G ⟨rfl, rfl, r0, wd, rest, rfl⟩
      obtain ⟨r, rfl⟩ : ∃ m, r = m + 1 := ⟨r - 1, by omega⟩
      cases hd with
      | @tup a xs0 _ na ha hx0 =>
      obtain ⟨x0, xs, rfl, h0, hx⟩ := dzs_cons hx0
      cases h0
      have hl := hx.len
      have okr : ∀ e ∈ rest, okd e = true := fun e he => okd_tup ok e (List.mem_cons_of_mem _ he)
      have deep : ((r + 1 : Nat) : Int) - 1 = (r : Int) := by omega
      have q : ∀ H', Same G H' → Q (optV (lawT many (lawB many r) L wd rest)) H' := q
      refine ⟨_, rfl, a, _, 0, .str wd, rfl, rfl, SqT.of ha, atI_nat (j := 0) rfl, ?_⟩
      have args : ∀ (u : Addr) (y : V), [V.int many, V.ref u, y, V.int (((r + 1 : Nat) : Int) - 1)] = [V.int many, V.ref u, y, V.int (r : Int)] := fun u y => by rw [deep]
      obtain ⟨σ1, eσ⟩ : ∃ σ1 : L2.St, σ1 = [some (.int many), some (.ref t), some (.ref a), some (.int ((r + 1 : Nat) : Int)), some (.str wd), none, none, none, none] := ⟨_, rfl⟩
      have lenE : ∀ m : Nat, decide (V.int (((V.str wd :: xs).length : Nat) : Int) = V.int ((m + 1 : Nat) : Int)) = decide (rest.length = m) := fun m => by
        by_cases h : rest.length = m
        · rw [decide_eq_true h, decide_eq_true]
          rw [List.length_cons, hl, h]
        · rw [decide_eq_false h, decide_eq_false]
          intro e
          injection e with e
          rw [List.length_cons, hl] at e
          omega
      have get1 : rest.length = 1 → ∃ d1 x1, rest = [d1] ∧ xs = [x1] ∧ DZ b G x1 d1 := fun z => by
        match rest, z, hx with
        | [d1], _, hx =>
          obtain ⟨x1, xr, rfl, h1, hn⟩ := dzs_cons hx
          obtain rfl := dzs_nil hn
          exact ⟨d1, x1, rfl, rfl, h1⟩
      have get2 : rest.length = 2 → ∃ d1 d2 x1 x2, rest = [d1, d2] ∧ xs = [x1, x2] ∧ DZ b G x1 d1 ∧ DZ b G x2 d2 := fun z => by
        match rest, z, hx with
        | [d1, d2], _, hx =>
          obtain ⟨x1, xr, rfl, h1, hn⟩ := dzs_cons hx
          obtain ⟨x2, xr, rfl, h2, hn⟩ := dzs_cons hn
          obtain rfl := dzs_nil hn
          exact ⟨d1, d2, x1, x2, rfl, rfl, h1, h2⟩
      have get3 : rest.length = 3 → ∃ d1 d2 d3 x1 x2 x3, rest = [d1, d2, d3] ∧ xs = [x1, x2, x3] ∧ DZ b G x1 d1 ∧ DZ b G x2 d2 ∧ DZ b G x3 d3 := fun z => by
        match rest, z, hx with
        | [d1, d2, d3], _, hx =>
          obtain ⟨x1, xr, rfl, h1, hn⟩ := dzs_cons hx
          obtain ⟨x2, xr, rfl, h2, hn⟩ := dzs_cons hn
          obtain ⟨x3, xr, rfl, h3, hn⟩ := dzs_cons hn
          obtain rfl := dzs_nil hn
          exact ⟨d1, d2, d3, x1, x2, x3, rfl, rfl, h1, h2, h3⟩
      -- "is"
      refine ⟨fun σ H2 => H2 = G ∧ σ = σ1 ∧ (rest.length = 3 → isW wd "is" = false), ?_, ?_⟩
      · refine ⟨_, rfl, rfl, _, rfl, ?_⟩
        show ite _ _ _
        refine ite2 (fun c => ?_) (fun c => ⟨rfl, eσ.symm, fun _ => ?_⟩)
        · rw [dec_str] at c
          refine ⟨_, rfl, a, _, rfl, .inr (SqT.of ha), rfl, _, rfl, ?_⟩
          refine ite2 (fun c2 => ?_) (fun c2 => ⟨rfl, eσ.symm, fun z => absurd ((lenE 3).trans (decide_eq_true z)) c2⟩)
          have c2 : rest.length = 3 := of_decide_eq_true ((lenE 3).symm.trans c2)
          obtain ⟨d1, d2, d3, x1, x2, x3, rfl, rfl, h1, h2, h3⟩ := get3 c2
          have e : lawT many (lawB many r) L wd [d1, d2, d3] = if ((intIn 0 (many - 1) d1 && nmD d2) && strIn L d2) && intIn (-1) 1 d3 then some 0 else none := if_pos c
          rw [e] at q
          refine ⟨fun σ G2 => Same G G2 ∧ σ = [some (.int many), some (.ref t), some (.ref a), some (.int ((r + 1 : Nat) : Int)), some (.str wd), some (.bl ((intIn 0 (many - 1) d1 && nmD d2) && strIn L d2)), none, none, none], ?_, ?_⟩
          · refine ⟨_, rfl, a, _, 1, x1, rfl, rfl, SqT.of ha, rfl, _, rfl, many, 1, rfl, rfl, b, x1, d1, 0, many - 1, rfl, h1, _, rfl, ?_⟩
            refine ite2 (fun k1 => ?_) (fun k1 => ?_)
            · refine ⟨_, rfl, a, _, 2, x2, rfl, rfl, SqT.of ha, rfl, b, x2, d2, rfl, h2, okr d2 (by simp), fun G2 s2 => ⟨_, rfl, ?_⟩⟩
              refine ite2 (fun k2 => ?_) (fun k2 => ?_)
              · obtain ⟨z, rfl⟩ : ∃ z, d2 = .str z := by
                  cases d2 with
                  | str z => exact ⟨z, rfl⟩
                  | _ => cases k2
                cases h2
                refine ⟨_, rfl, a, _, 2, .str z, rfl, rfl, SqT.of (s2 _ _ ha), rfl, _, rfl, t, _, rfl, .inl (SqL.of (s2 _ _ ht)), rfl, flat_strs0 L, s2, ?_⟩
                rw [in_strs, k1, k2]
                rfl
              · have k2 : nmD d2 = false := (Bool.not_eq_true _).mp k2
                refine ⟨s2, ?_⟩
                rw [k2, Bool.and_false, Bool.false_and]
                rfl
            · have k1 : intIn 0 (many - 1) d1 = false := (Bool.not_eq_true _).mp k1
              refine ⟨Same.refl _, ?_⟩
              rw [k1, Bool.false_and, Bool.false_and]
              rfl
          · rintro σ G2 ⟨s2, rfl⟩
            refine ⟨_, rfl, _, rfl, ?_⟩
            have q := q G2 s2
            refine ite2 (fun k1 => ?_) (fun k1 => ?_)
            · rw [k1, Bool.true_and] at q
              refine ⟨_, rfl, a, _, 3, x3, rfl, rfl, SqT.of (s2 _ _ ha), rfl, 1, rfl, b, x3, d3, -1, 1, rfl, h3.same s2, _, rfl, ?_⟩
              refine ite2 (fun k3 => ?_) (fun k3 => ?_)
              · rw [if_pos k3] at q
                exact q
              · rw [if_neg k3] at q
                exact q
            · rw [(Bool.not_eq_true _).mp k1, Bool.false_and] at q
              exact iteF q
        · rw [dec_str] at c
          exact (Bool.not_eq_true _).mp c
      rintro σ H2 ⟨rfl, e2, nIs⟩
      rw [e2, eσ]
      -- "ahead", "same"
      refine ⟨fun σ G => Same H2 G ∧ σ = σ1 ∧ (rest.length = 2 → (isW wd "ahead" || isW wd "same") = false), ?_, ?_⟩
      · refine ⟨_, rfl, (by show 2 ≤ sizeLine; decide), fun p hp => ⟨p, _, rfl, .inl (SqL.of upd_same), rfl, rfl, _, rfl, ?_⟩⟩
        have sp : Same H2 (upd H2 p (.lst [.str (Str.ofString "ahead"), .str (Str.ofString "same")])) := same_upd hp
        generalize upd H2 p (.lst [.str (Str.ofString "ahead"), .str (Str.ofString "same")]) = G at sp
        have ei := in2 wd "ahead" "same"
        show (if inV (.str wd) [.str (Str.ofString "ahead"), .str (Str.ofString "same")] = true then _ else _)
        rw [ei]
        refine ite2 (fun c => ?_) (fun c => ⟨sp, eσ.symm, fun _ => (Bool.not_eq_true _).mp c⟩)
        have ha1 := sp _ _ ha
        refine ⟨_, rfl, a, _, rfl, .inr (SqT.of ha1), rfl, _, rfl, ?_⟩
        refine ite2 (fun c2 => ?_) (fun c2 => ⟨sp, eσ.symm, fun z => absurd ((lenE 2).trans (decide_eq_true z)) c2⟩)
        have c2 : rest.length = 2 := of_decide_eq_true ((lenE 2).symm.trans c2)
        obtain ⟨d1, d2, x1, x2, rfl, rfl, h1, h2⟩ := get2 c2
        have e : lawT many (lawB many r) L wd [d1, d2] = if (nmD d1 && strIn L d1) && (nmD d2 && strIn L d2) then some 0 else none := if_pos c
        rw [e] at q
        refine ⟨.ref a, rfl, 1, rfl, a, _, rfl, SqT.of ha1, cut1_ne, fun u hu => ⟨u, rfl, ⟨_, SqT.of upd_same⟩, ?_⟩⟩
        rw [cut1]
        have su1 : Same H2 (upd G u (.tup [x1, x2])) := sp.trans (same_upd hu)
        have hu1 : upd G u (.tup [x1, x2]) u = some (.tup [x1, x2]) := upd_same
        generalize upd G u (.tup [x1, x2]) = G2 at su1 hu1
        intro D hD
        refine lc_tup (K := K) (a := u) (xs := [x1, x2]) (fun i G3 => Same G2 G3 ∧ G3 D = some (.lst (([nmD d1 && strIn L d1, nmD d2 && strIn L d2].take i).map V.bl))) ⟨same_upd hD, by rw [upd_same]; rfl⟩ (fun i G3 _ h => Nm.Same.seqT h.1 (SqT.of hu1)) ?_ ?_
        · rintro i y G3 hy ⟨sG, hDG⟩
          have s3G : Same H2 G3 := su1.trans sG
          obtain ⟨e, he, hye, oke⟩ : ∃ e, ([nmD d1 && strIn L d1, nmD d2 && strIn L d2])[i]? = some (nmD e && strIn L e) ∧ DZ b H2 y e ∧ okd e = true := by
            match i, hy with
            | 0, hy =>
              obtain rfl := Option.some.inj hy
              exact ⟨d1, rfl, h1, okr d1 (by simp)⟩
            | 1, hy =>
              obtain rfl := Option.some.inj hy
              exact ⟨d2, rfl, h2, okr d2 (by simp)⟩
            | i + 2, hy => exact absurd hy (by simp)
          have hi : i < 2 := by
            have := (List.getElem?_eq_some_iff.mp hy).1
            exact this
          have fin : ∀ (v : Bool) (G4 : Hp), v = (nmD e && strIn L e) → Same G3 G4 → ∃ acc, G4 D = some (.lst acc) ∧ acc.length < sizeLine ∧ Same G2 (upd G4 D (.lst (acc ++ [V.bl v]))) ∧
              upd G4 D (.lst (acc ++ [V.bl v])) D = some (.lst (([nmD d1 && strIn L d1, nmD d2 && strIn L d2].take (i + 1)).map V.bl)) := fun v G4 ev s4 => by
            refine ⟨_, s4 _ _ hDG, ?_, fun c o hc => ?_, ?_⟩
            · rw [List.length_map, List.length_take]
              exact Nat.lt_of_le_of_lt (show _ ≤ 2 by simp; omega) (by decide)
            · rw [upd_ne (ne_of_none hc hD)]
              exact s4 _ _ (sG _ _ hc)
            · rw [upd_same, List.take_add_one, he, List.map_append, ev]
              rfl
          refine ⟨rfl, ?_⟩
          unfold tYes
          dsimp only
          rw [if_pos rfl]
          refine ⟨_, rfl, b, y, e, rfl, hye.same s3G, oke, fun G4 s4 => ⟨_, rfl, ?_⟩⟩
          refine ite2 (fun k => ?_) (fun k => ?_)
          · obtain ⟨z, rfl⟩ : ∃ z, e = .str z := by
              cases e with
              | str z => exact ⟨z, rfl⟩
              | _ => cases k
            cases hye
            refine ⟨_, rfl, _, rfl, t, _, rfl, .inl (SqL.of ((s3G.trans s4) _ _ ht)), rfl, flat_strs0 L, fin _ G4 ?_ s4⟩
            rw [in_strs, k]
            rfl
          · have k : nmD e = false := (Bool.not_eq_true _).mp k
            exact fin false G4 (by rw [k]; rfl) s4
        · rintro G3 ⟨sG, hDG⟩
          refine ⟨D, _, rfl, SqL.of hDG, _, rfl, ?_⟩
          have q := q G3 (su1.trans sG)
          have e : (([nmD d1 && strIn L d1, nmD d2 && strIn L d2].take [x1, x2].length).all id) = ((nmD d1 && strIn L d1) && (nmD d2 && strIn L d2)) := by
            show ((nmD d1 && strIn L d1) && ((nmD d2 && strIn L d2) && true)) = _
            rw [Bool.and_true]
          rw [e]
          refine ite2 (fun k => ?_) (fun k => ?_)
          · rw [if_pos k] at q
            exact q
          · rw [if_neg k] at q
            exact q
      rintro σ H3 ⟨s3, e3, nAh⟩
      rw [e3, eσ]
      -- "not"
      refine ⟨fun σ G => G = H3 ∧ σ = σ1 ∧ (rest.length = 1 → isW wd "not" = false), ?_, ?_⟩
      · have ha1 := s3 _ _ ha
        refine ⟨_, rfl, rfl, _, rfl, ?_⟩
        show ite _ _ _
        refine ite2 (fun c => ?_) (fun c => ⟨rfl, eσ.symm, fun _ => ?_⟩)
        · rw [dec_str] at c
          refine ⟨_, rfl, a, _, rfl, .inr (SqT.of ha1), rfl, _, rfl, ?_⟩
          refine ite2 (fun c2 => ?_) (fun c2 => ⟨rfl, eσ.symm, fun z => absurd ((lenE 1).trans (decide_eq_true z)) c2⟩)
          have c2 : rest.length = 1 := of_decide_eq_true ((lenE 1).symm.trans c2)
          obtain ⟨d1, x1, rfl, rfl, h1⟩ := get1 c2
          refine ⟨_, rfl, _, rfl, _, rfl, a, _, 1, x1, rfl, rfl, SqT.of ha1, rfl, _, rfl, _, 1, rfl, rfl, ?_⟩
          refine ⟨b, t, x1, many, r, L, d1, args t x1, s3 _ _ ht, h1.same s3, okr d1 (by simp), by omega, by omega, fun H' s' => ?_⟩
          have q := q H' (s3.trans s')
          have e : lawT many (lawB many r) L wd [d1] = lawB many r L d1 := if_pos c
          rw [e] at q
          exact q
        · rw [dec_str] at c
          exact (Bool.not_eq_true _).mp c
      rintro σ H4 ⟨rfl, e4, nNot⟩
      rw [e4, eσ]
      -- "and", "or"
      refine ⟨fun σ G => Same H2 G ∧ σ = σ1 ∧ (rest.length = 2 → (isW wd "and" || isW wd "or") = false), ?_, ?_⟩
      · refine ⟨_, rfl, (by show 2 ≤ sizeLine; decide), fun p hp => ⟨p, _, rfl, .inl (SqL.of upd_same), rfl, rfl, _, rfl, ?_⟩⟩
        have sp : Same H2 (upd H4 p (.lst [.str (Str.ofString "and"), .str (Str.ofString "or")])) := s3.trans (same_upd hp)
        generalize upd H4 p (.lst [.str (Str.ofString "and"), .str (Str.ofString "or")]) = G at sp
        have ei := in2 wd "and" "or"
        show (if inV (.str wd) [.str (Str.ofString "and"), .str (Str.ofString "or")] = true then _ else _)
        rw [ei]
        refine ite2 (fun c => ?_) (fun c => ⟨sp, eσ.symm, fun _ => (Bool.not_eq_true _).mp c⟩)
        have ha1 := sp _ _ ha
        refine ⟨_, rfl, a, _, rfl, .inr (SqT.of ha1), rfl, _, rfl, ?_⟩
        refine ite2 (fun c2 => ?_) (fun c2 => ⟨sp, eσ.symm, fun z => absurd ((lenE 2).trans (decide_eq_true z)) c2⟩)
        have c2 : rest.length = 2 := of_decide_eq_true ((lenE 2).symm.trans c2)
        obtain ⟨d1, d2, x1, x2, rfl, rfl, h1, h2⟩ := get2 c2
        have e : lawT many (lawB many r) L wd [d1, d2] = if isW wd "ahead" || isW wd "same" then (if (nmD d1 && strIn L d1) && (nmD d2 && strIn L d2) then some 0 else none)
            else if isW wd "and" || isW wd "or" then sumO (lawB many r L d1) (lawB many r L d2)
            else if isW wd "all" || isW wd "some" then lawA (lawB many r) L d2 d1 else none := rfl
        rw [nAh rfl] at e
        have e : lawT many (lawB many r) L wd [d1, d2] = sumO (lawB many r L d1) (lawB many r L d2) := e.trans (if_pos c)
        rw [e] at q
        refine ⟨.ref a, rfl, 1, rfl, a, _, rfl, SqT.of ha1, cut1_ne, fun u hu => ⟨u, rfl, ⟨_, SqT.of upd_same⟩, ?_⟩⟩
        rw [cut1]
        have su1 : Same H2 (upd G u (.tup [x1, x2])) := sp.trans (same_upd hu)
        have hu1 : upd G u (.tup [x1, x2]) u = some (.tup [x1, x2]) := upd_same
        generalize upd G u (.tup [x1, x2]) = G2 at su1 hu1
        intro D hD
        refine lc_tup (K := K) (a := u) (xs := [x1, x2]) (fun i G3 => Same G2 G3 ∧ G3 D = some (.lst ([optV (lawB many r L d1), optV (lawB many r L d2)].take i))) ⟨same_upd hD, by rw [upd_same]; rfl⟩ (fun i G3 _ h => Nm.Same.seqT h.1 (SqT.of hu1)) ?_ ?_
        · rintro i y G3 hy ⟨sG, hDG⟩
          have s3G : Same H2 G3 := su1.trans sG
          obtain ⟨e, he, hye, oke⟩ : ∃ e, ([optV (lawB many r L d1), optV (lawB many r L d2)])[i]? = some (optV (lawB many r L e)) ∧ DZ b H2 y e ∧ okd e = true := by
            match i, hy with
            | 0, hy =>
              obtain rfl := Option.some.inj hy
              exact ⟨d1, rfl, h1, okr d1 (by simp)⟩
            | 1, hy =>
              obtain rfl := Option.some.inj hy
              exact ⟨d2, rfl, h2, okr d2 (by simp)⟩
            | i + 2, hy => exact absurd hy (by simp)
          have hi : i < 2 := by
            have := (List.getElem?_eq_some_iff.mp hy).1
            exact this
          refine ⟨rfl, ?_⟩
          unfold tYes
          dsimp only
          rw [if_pos rfl]
          refine ⟨_, rfl, _, rfl, _, rfl, _, rfl, _, 1, rfl, rfl, ?_⟩
          refine ⟨b, t, y, many, r, L, e, args t y, s3G _ _ ht, hye.same s3G, oke, by omega, by omega, fun G4 s4 => ?_⟩
          refine ⟨_, s4 _ _ hDG, ?_, fun c o hc => ?_, ?_⟩
          · rw [List.length_take]
            exact Nat.lt_of_le_of_lt (show _ ≤ 2 by simp; omega) (by decide)
          · rw [upd_ne (ne_of_none hc hD)]
            exact s4 _ _ (sG _ _ hc)
          · rw [upd_same, List.take_add_one, he]
            rfl
        · rintro G3 ⟨sG, hDG⟩
          have hDG : G3 D = some (.lst [optV (lawB many r L d1), optV (lawB many r L d2)]) := hDG
          have q := q G3 (su1.trans sG)
          refine ⟨_, rfl, D, _, rfl, .inl (SqL.of hDG), rfl, ?_, _, rfl, ?_⟩
          · show (flatV (optV (lawB many r L d1)) && (flatV (optV (lawB many r L d2)) && true)) = true
            rw [opt_flat, opt_flat]
            rfl
          have en := in_non2 (lawB many r L d1) (lawB many r L d2)
          show (if inV .non [optV (lawB many r L d1), optV (lawB many r L d2)] = true then _ else _)
          rw [en]
          cases e1 : lawB many r L d1 with
          | none =>
            rw [e1] at q
            exact iteT q
          | some m1 =>
            cases e2 : lawB many r L d2 with
            | none =>
              rw [e1, e2] at q
              exact iteT q
            | some m2 =>
              rw [e1, e2] at q hDG
              refine iteF ⟨_, rfl, D, [((m1 : Nat) : Int), ((m2 : Nat) : Int)], rfl, SqL.of hDG, ?_⟩
              have e : ([((m1 : Nat) : Int), ((m2 : Nat) : Int)]).sum = ((m1 + m2 : Nat) : Int) := by
                show ((m1 : Nat) : Int) + (((m2 : Nat) : Int) + 0) = _
                omega
              rw [e]
              exact q
      rintro σ H5 ⟨s5, e5, nAnd⟩
      rw [e5, eσ]
      -- "all", "some"
      refine ⟨fun σ G => Same H2 G ∧ ∀ d1 d2, rest = [d1, d2] → ((isW wd "all" || isW wd "some") && nmD d1) = false, ?_, ?_⟩
      · refine ⟨_, rfl, (by show 2 ≤ sizeLine; decide), fun p hp => ⟨p, _, rfl, .inl (SqL.of upd_same), rfl, rfl, _, rfl, ?_⟩⟩
        have sp : Same H2 (upd H5 p (.lst [.str (Str.ofString "all"), .str (Str.ofString "some")])) := s5.trans (same_upd hp)
        generalize upd H5 p (.lst [.str (Str.ofString "all"), .str (Str.ofString "some")]) = G at sp
        have ei := in2 wd "all" "some"
        show (if inV (.str wd) [.str (Str.ofString "all"), .str (Str.ofString "some")] = true then _ else _)
        rw [ei]
        refine ite2 (fun c => ?_) (fun c => ⟨sp, fun _ _ _ => by rw [(Bool.not_eq_true _).mp c]; rfl⟩)
        have ha1 := sp _ _ ha
        refine ⟨_, rfl, a, _, rfl, .inr (SqT.of ha1), rfl, _, rfl, ?_⟩
        refine ite2 (fun c2 => ?_) (fun c2 => ⟨sp, fun d1 d2 z => absurd ((lenE 2).trans (decide_eq_true (by rw [z]; rfl))) c2⟩)
        have c2 : rest.length = 2 := of_decide_eq_true ((lenE 2).symm.trans c2)
        obtain ⟨d1, d2, x1, x2, rfl, rfl, h1, h2⟩ := get2 c2
        have e : lawT many (lawB many r) L wd [d1, d2] = if isW wd "ahead" || isW wd "same" then (if (nmD d1 && strIn L d1) && (nmD d2 && strIn L d2) then some 0 else none)
            else if isW wd "and" || isW wd "or" then sumO (lawB many r L d1) (lawB many r L d2)
            else if isW wd "all" || isW wd "some" then lawA (lawB many r) L d2 d1 else none := rfl
        rw [nAh rfl, nAnd rfl] at e
        have e : lawT many (lawB many r) L wd [d1, d2] = lawA (lawB many r) L d2 d1 := e.trans (if_pos c)
        rw [e] at q
        refine ⟨_, rfl, a, _, 1, x1, rfl, rfl, SqT.of ha1, rfl, b, x1, d1, rfl, h1.same sp, okr d1 (by simp), fun G2 s2 => ⟨_, rfl, ?_⟩⟩
        have s2' : Same H2 G2 := sp.trans s2
        refine ite2 (fun k => ?_) (fun k => ⟨s2', fun e1 e2 z => ?_⟩)
        · obtain ⟨z, rfl⟩ : ∃ z, d1 = .str z := by
            cases d1 with
            | str z => exact ⟨z, rfl⟩
            | _ => cases k
          have e : lawA (lawB many r) L d2 (.str z) = (lawB many r (L ++ [z]) d2).map (1 + ·) := if_pos k
          rw [e] at q
          cases h1
          have ha2 := s2' _ _ ha
          refine ⟨_, rfl, _, rfl, _, rfl, a, _, 1, .str z, rfl, rfl, SqT.of ha2, rfl, (by show 1 ≤ sizeLine; decide), fun v hv => ?_⟩
          have sv : Same H2 (upd G2 v (.lst [.str z])) := s2'.trans (same_upd hv)
          have hv1 : upd G2 v (.lst [V.str z]) v = some (.lst [.str z]) := upd_same
          generalize upd G2 v (.lst [V.str z]) = G3 at sv hv1
          refine ⟨t, v, _, _, rfl, rfl, sv _ _ ht, hv1, ?_, fun u hu => ?_⟩
          · rw [List.length_map]
            exact Nat.le_trans (show L.length + 1 ≤ 1000 by omega) (by decide)
          have su : Same H2 (upd G3 u (.lst (L.map V.str ++ [V.str z]))) := sv.trans (same_upd hu)
          have hu1 : upd G3 u (.lst (L.map V.str ++ [V.str z])) u = some (.lst ((L ++ [z]).map V.str)) := by rw [upd_same, List.map_append]; rfl
          generalize upd G3 u (.lst (L.map V.str ++ [V.str z])) = G4 at su hu1
          have ha4 := su _ _ ha
          refine ⟨_, rfl, a, _, 2, x2, rfl, rfl, SqT.of ha4, rfl, _, rfl, _, 1, rfl, rfl, ?_⟩
          refine ⟨b, u, x2, many, r, L ++ [z], d2, args u x2, hu1, h2.same su, okr d2 (by simp), by omega, ?_, fun G5 s5 => ?_⟩
          · rw [List.length_append, List.length_singleton]; omega
          have q := q G5 (su.trans s5)
          refine ⟨_, rfl, rfl, _, rfl, ?_⟩
          cases e1 : lawB many r (L ++ [z]) d2 with
          | none =>
            rw [e1] at q
            exact iteT q
          | some m1 =>
            rw [e1] at q
            refine iteF ⟨_, rfl, 1, _, rfl, rfl, ?_⟩
            have e2 : (1 : Int) + ((m1 : Nat) : Int) = ((1 + m1 : Nat) : Int) := by omega
            show Q (.int ((1 : Int) + ((m1 : Nat) : Int))) G5
            rw [e2]
            exact q
        · injection z with z1 z2
          rw [← z1, (Bool.not_eq_true _).mp k, Bool.and_false]
      rintro σ H6 ⟨s6, nAll⟩
      have q := q H6 s6
      have e : lawT many (lawB many r) L wd rest = none := by
        match rest, nIs, nAh, nNot, nAnd, nAll with
        | [], _, _, _, _, _ => rfl
        | [d1], _, _, n3, _, _ => exact if_neg (by rw [n3 rfl]; simp)
        | [d1, d2], _, n2, _, n4, n5 =>
          have e : lawT many (lawB many r) L wd [d1, d2] = if isW wd "ahead" || isW wd "same" then (if (nmD d1 && strIn L d1) && (nmD d2 && strIn L d2) then some 0 else none)
            else if isW wd "and" || isW wd "or" then sumO (lawB many r L d1) (lawB many r L d2)
            else if isW wd "all" || isW wd "some" then lawA (lawB many r) L d2 d1 else none := rfl
          rw [n2 rfl, n4 rfl] at e
          refine e.trans ?_
          show (if (isW wd "all" || isW wd "some") = true then lawA (lawB many r) L d2 d1 else none) = none
          by_cases c : (isW wd "all" || isW wd "some") = true
          · rw [if_pos c]
            have n5 := n5 d1 d2 rfl
            rw [c, Bool.true_and] at n5
            exact lawA_no n5
          · exact if_neg c
        | [d1, d2, d3], n1, _, _, _, _ => exact if_neg (by rw [n1 rfl]; simp)
        | _ :: _ :: _ :: _ :: _, _, _, _, _, _ => rfl
      rw [e] at q
      exact q
/-! ### _law_is_one -/
structure OneT (P : Program) (w : World) (K : PySem.W.Frag) (mg : Str → Option Value) (base : Heap) where
  fB : Addr
  fdB : FuncData
  FB : ∀ n, FnOk P w K mg base CX0 (n + 3) fB fdB aBound (spBound n)
  bB : Binds K fdB aBound []
  gB : mg "_law_bound" = some (.ref fB)
  kB : PySem.W.keepIn K (.ref fB) = true
def spIsOne : Sp := fun vs H Q _ => ∃ (b t : Addr) (x : V) (many : Int) (L : List Str) (d : PyData), vs = [.int many, .ref t, x] ∧ H t = some (.tup (L.map V.str)) ∧
  DZ b H x d ∧ okd d = true ∧ L.length ≤ 900 ∧ ∀ H', Same H H' → Q (.bl (oneB (lawB many 8 L d))) H'
theorem scIsOne : FnScope ["many", "letters", "thing", "bound"] ["many", "letters", "thing"] (defScope sIsOne) := ⟨rfl, rfl, rfl, by decide +kernel, rfl, by decide +kernel, by decide +kernel⟩
theorem ok_isone {f : Addr} {fd : FuncData} (F : Fun K "_law_is_one" "_law_is_one" sIsOne f fd) (T : WdT mg) (U : OneT P w K mg base) : FnOk P w K mg base CX0 13 f fd ["many", "letters", "thing"] spIsOne := by
  refine F.ok scIsOne (fun vs H Q E h => ?_) (fun cdv A outer s H vs Q E hr h => ?_)
  · obtain ⟨b, t, x, many, L, d, rfl, _⟩ := h
    rfl
  · obtain ⟨b, t, x, many, L, d, rfl, ht, hd, ok, few, q⟩ := h
    have hr2 : Room (9 + 3) _ := hr
    refine ⟨_, pss_cons (ps_set (i := 3) scIsOne.nd rfl (.inl rfl) (pe_call (U.FB 9) hr2 (by rfl) U.gB U.kB U.bB .nil pass0 (pa_cons (pv 0) (pa_cons (pe_callTy call_list_of (by rfl) T.list (by decide +kernel) (pa_cons (pv 1) pa_nil)) (pa_cons (pv 2) (pa_cons pe_int pa_nil))))))
      (pss_one (ps_ret (pe_and (pe_cmpR op_notN (pv 3) pe_non (nomark _)) (pe_one (pe_cmpR op_le (pv 3) pe_int (nomark _)))))), ?_⟩
    refine ⟨_, rfl, _, rfl, t, _, rfl, .inr (SqT.of ht), fun l hl => ?_⟩
    have s1 : Same H (upd H l (.lst (L.map V.str))) := same_upd hl
    refine ⟨_, rfl, b, l, x, many, 8, L, d, rfl, upd_same, hd.same s1, ok, by decide, by omega, fun H' s' => ?_⟩
    have q := q H' (s1.trans s')
    refine ⟨_, rfl, rfl, _, rfl, ?_⟩
    cases e : lawB many 8 L d with
    | none =>
      rw [e] at q
      exact iteF q
    | some m =>
      rw [e] at q
      refine iteT ⟨_, rfl, _, 4, rfl, rfl, ?_⟩
      have e : decide (((m : Nat) : Int) ≤ 4) = decide (m ≤ 4) := by
        by_cases h : m ≤ 4
        · rw [decide_eq_true h, decide_eq_true (by omega)]
        · rw [decide_eq_false h, decide_eq_false (by omega)]
      show Q (.bl (decide (((m : Nat) : Int) ≤ 4))) H'
      rw [e]
      exact q
end
end Nm

/-! What is drawn: _law_deep, _law_saying, _law_odd. -/
namespace Nm
open PySem PySem.Spec PyProof.Rows L2
abbrev sDeep : Stmt := topS 29
abbrev sSay : Stmt := topS 30
abbrev sOdd : Stmt := topS 31
def deepT : Nat → PyData | 0 => .tuple [] | n + 1 => .tuple [deepT n]
theorem deepT_th : ∀ n, Th (deepT n) (n + 1) (8 + 10 * n)
  | 0 => ⟨rfl, Nat.le_refl 1, Nat.le_refl 8⟩
  | n + 1 => (th1 (deepT_th n)).mono (Nat.le_refl _) (by omega)
theorem mem_strs {v : V} {L : List Str} (h : v ∈ L.map V.str) : ∃ z, z ∈ L ∧ v = .str z := by
  obtain ⟨z, hz, e⟩ := List.mem_map.mp h
  exact ⟨z, hz, e.symm⟩
theorem mem_ints {v : V} {L : List Int} (h : v ∈ L.map V.int) : ∃ z, z ∈ L ∧ v = .int z := by
  obtain ⟨z, hz, e⟩ := List.mem_map.mp h
  exact ⟨z, hz, e.symm⟩
def LN : List Str := (["x", "y", "z", "later"] : List String).map Str.ofString
def LA : List Str := (["all", "some"] : List String).map Str.ofString
def LO : List Str := (["and", "or"] : List String).map Str.ofString
def LH : List Str := (["ahead", "same", "ahead"] : List String).map Str.ofString
def LS : List Int := [-1, 0, 0, 1]
theorem LN_ok : ∀ z ∈ LN, nmB z = true ∧ z ∈ strs0 := by decide +kernel
theorem LA_ok : ∀ z ∈ LA, z ∈ strs0 := by decide +kernel
theorem LO_ok : ∀ z ∈ LO, z ∈ strs0 := by decide +kernel
theorem LH_ok : ∀ z ∈ LH, z ∈ strs0 := by decide +kernel
theorem LS_ok : ∀ z ∈ LS, z ∈ ints0 := by decide +kernel
theorem not_ok : Str.ofString "not" ∈ strs0 := by decide +kernel
theorem is_ok : Str.ofString "is" ∈ strs0 := by decide +kernel
theorem small_ok {r : Int} (h0 : 0 ≤ r) (h5 : r < 5) : r ∈ ints0 := by
  rcases (show r = 0 ∨ r = 1 ∨ r = 2 ∨ r = 3 ∨ r = 4 by omega) with rfl | rfl | rfl | rfl | rfl <;> decide +kernel
section
variable {P : Program} {w : World} {K : PySem.W.Frag} {mg : Str → Option Value} {base : Heap}
/-! ### _law_deep -/
def spDeep : Sp := fun vs H Q _ => ∃ (b : Addr) (n : Nat), vs = [.int ((n : Nat) : Int)] ∧ n ≤ 7 ∧ H b ≠ none ∧ ∀ (v : V) (H' : Hp), Same H H' → DZ b H' v (deepT n) → Q v H'
theorem scDeep : FnScope ["many", "found", "turn"] ["many"] (defScope sDeep) := ⟨rfl, rfl, rfl, by decide +kernel, rfl, by decide +kernel, by decide +kernel⟩
theorem ne_b {H : Hp} {b p : Addr} (hb : H b ≠ none) (hp : H p = none) : p ≠ b := fun e => hb (e ▸ hp)
theorem Same.non {H H' : Hp} {b : Addr} (s : Same H H') (hb : H b ≠ none) : H' b ≠ none := by
  cases e : H b with
  | none => exact absurd e hb
  | some o => rw [s b o e]; simp
theorem ok_deep {f : Addr} {fd : FuncData} {k : Nat} (F : Fun K "_law_deep" "_law_deep" sDeep f fd) (T : WdT mg) : FnOk P w K mg base CX0 (k + 1) f fd ["many"] spDeep := by
  refine F.ok scDeep (fun vs H Q E h => ?_) (fun cdv A outer s H vs Q E hr h => ?_)
  · obtain ⟨b, n, rfl, _⟩ := h
    rfl
  · obtain ⟨b, n, rfl, hn, hb, q⟩ := h
    refine ⟨_, pss_cons (ps_set (i := 1) scDeep.nd rfl (.inl rfl) (pe_tup pa_nil))
      (pss_cons (ps_for PassesOwn.never rfl (pi_range1 rfl T.range (pa_cons (pv 0) pa_nil)) (pg_name (i := 2) scDeep.nd rfl (Or.inl rfl))
        (pss_one (ps_set (i := 1) scDeep.nd rfl (.inl rfl) (pe_tup (pa_cons (pv 1) pa_nil)))))
      (pss_one (ps_ret (pv 1)))), ?_⟩
    refine ⟨Nat.zero_le _, fun t0 h0 => ?_⟩
    refine ⟨_, rfl, ((n : Nat) : Int), rfl, by omega, by omega, ?_⟩
    refine for_range (n := n) (fun i σ H2 => ∃ (v : V) (y : Option V), σ = [some (.int ((n : Nat) : Int)), some v, y] ∧ Same H H2 ∧ DZ b H2 v (deepT i)) ⟨_, none, rfl, same_upd h0, .tup (ne_b hb h0) upd_same .nil⟩ ?_ ?_
    · rintro i σ H2 hi ⟨v, y, rfl, sm, d⟩
      refine ⟨_, rfl, (by show 1 ≤ sizeLine; decide), fun t ht => ?_⟩
      have s1 : Same H2 (upd H2 t (.tup [v])) := same_upd ht
      exact ⟨.ref t, _, rfl, sm.trans s1, .tup (ne_b (Same.non sm hb) ht) upd_same (.cons (d.same s1) .nil)⟩
    · rintro σ H2 ⟨v, y, rfl, sm, d⟩
      exact ⟨v, rfl, q v H2 sm d⟩
/-! ### _law_saying -/
structure DrwT (P : Program) (w : World) (K : PySem.W.Frag) (mg : Str → Option Value) (base : Heap) where
  fD : Addr
  fdD : FuncData
  FD : FnOk P w K mg base CX0 1 fD fdD ["hand", "many"] spDraw
  bD : Binds K fdD ["hand", "many"] []
  gD : mg "_law_draw" = some (.ref fD)
  kD : PySem.W.keepIn K (.ref fD) = true
  fA : Addr
  fdA : FuncData
  FA : FnOk P w K mg base CX0 2 fA fdA ["hand", "some"] spAny
  bA : Binds K fdA ["hand", "some"] []
  gA : mg "_law_any" = some (.ref fA)
  kA : PySem.W.keepIn K (.ref fA) = true
def spSay (n : Nat) : Sp := fun vs H Q _ => ∃ (b g t : Addr) (k : Nat) (many bound : Int) (r : Nat) (L : List Str), vs = [.ref b, .int many, .ref t, .int ((r : Nat) : Int), .int bound] ∧ HandAt H b g k ∧ k + (8 * 2 ^ r - 4) < 1000000000000 ∧
  0 ≤ many ∧ many ≤ 5 ∧ H t = some (.lst (L.map V.str)) ∧ t ≠ b ∧ LtOk L ∧ L ≠ [] ∧ L.length + r ≤ 100 ∧ 1 ≤ r ∧ r < n ∧ r ≤ 9 ∧ 0 ≤ bound ∧ bound ≤ 5 ∧
  ∀ (v : V) (d : PyData) (H' : Hp), DZ b H' v d → Th d r (400 * 2 ^ r - 100) → HandAt H' b g (k + (8 * 2 ^ r - 4)) → Kept b H H' → Q v H'
abbrev nSay : List Str := ["hand", "many", "letters", "room", "bound", "way", "letter", "inner", "half", "one"]
abbrev aSay : List Str := ["hand", "many", "letters", "room", "bound"]
theorem scSay : FnScope nSay aSay (defScope sSay) := ⟨rfl, rfl, rfl, by decide +kernel, rfl, by decide +kernel, by decide +kernel⟩
theorem HandAt.some {H : Hp} {b g : Addr} {n : Nat} (h : HandAt H b g n) : H b ≠ none := by
  obtain ⟨_, ⟨i, big, seed, c, e, _⟩, _⟩ := h
  rw [e]; simp
theorem HandAt.keptNew {H H' : Hp} {b g : Addr} {n : Nat} (h : HandAt H b g n) (e : Same H H') : HandAt H' b g n := h.same e
theorem ok_say {f : Addr} {fd : FuncData} (F : Fun K "_law_saying" "_law_saying" sSay f fd) (T : WdT mg) (U : DrwT P w K mg base) (bF : Binds K fd aSay []) (gF : mg "_law_saying" = some (.ref f)) : ∀ n, FnOk P w K mg base CX0 (n + 3) f fd aSay (spSay n) := by
  intro n
  induction n with
  | zero =>
    refine ⟨fun vs H Q E h => ?_, fun A outer s H args us vs Q E hr he hb hv h => ?_⟩
    · obtain ⟨b, g, t, k, many, bound, r, L, rfl, _⟩ := h
      rfl
    · obtain ⟨b, g, t, k, many, bound, r, L, rfl, _, _, _, _, _, _, _, _, _, _, z, _⟩ := h
      exact absurd z (Nat.not_lt_zero _)
  | succ n ih =>
    refine F.ok scSay (fun vs H Q E h => ?_) (fun cdv A outer s H vs Q E hr h => ?_)
    · obtain ⟨b, g, t, k, many, bound, r, L, rfl, _⟩ := h
      rfl
    · obtain ⟨b, g, t, k, many, bound, r, L, rfl, B, hk, m0, m5, ht, ntb, lt, ne, few, r1, rn, r9, bd0, bd5, q⟩ := h
      have hr1 : Room 1 _ := hr.mono (by omega)
      have hr2 : Room 2 _ := hr.mono (by omega)
      have hr3 : Room (n + 3) _ := hr
      refine ⟨_, pss_cut (ps_set (i := 5) scSay.nd rfl (.inl rfl) (pe_call U.FD hr1 (by rfl) U.gD U.kD U.bD .nil pass0 (pa_cons (pv 0) (pa_cons pe_int pa_nil))))
        (pss_cut (ps_if (PW.pt (pw_and (pt_cmpR op_gt (pv 3) pe_int (nomark _)) (pw_and (pt_cmpR op_gt (pv 4) pe_int (nomark _)) (pw_and1 (PW.pt (pw_or (pt_cmpR op_eq (pe_callB call_len_seq (by rfl) T.len PySem.boot_len (pa_cons (pv 2) pa_nil)) pe_int (nomark _)) (pw_or1 (pt_cmpR op_lt (pv 5) pe_int (nomark _)))))))))
          (pss_cons (ps_set (i := 6) scSay.nd rfl (.inl rfl) (pe_call U.FA hr2 (by rfl) U.gA U.kA U.bA .nil pass0 (pa_cons (pv 0) (pa_cons (pe_lst (pa_cons pe_str (pa_cons pe_str (pa_cons pe_str (pa_cons pe_str pa_nil))))) pa_nil))))
          (pss_cons (ps_set (i := 7) scSay.nd rfl (.inl rfl) (pe_call ih hr3 (by rfl) gF F.kp bF .nil pass0 (pa_cons (pv 0) (pa_cons (pv 1) (pa_cons (pe_op op_cat (pv 2) (pe_lst (pa_cons (pv 6) pa_nil))) (pa_cons (pe_op op_sub (pv 3) pe_int) (pa_cons (pe_op op_sub (pv 4) pe_int) pa_nil)))))))
          (pss_one (ps_ret (pe_tup (pa_cons (pe_call U.FA hr2 (by rfl) U.gA U.kA U.bA .nil pass0 (pa_cons (pv 0) (pa_cons (pe_lst (pa_cons pe_str (pa_cons pe_str pa_nil))) pa_nil))) (pa_cons (pv 6) (pa_cons (pv 7) pa_nil)))))))) pss_nil)
        (pss_cut (ps_if (PW.pt (pw_and (pt_cmpR op_gt (pv 3) pe_int (nomark _)) (pw_and1 (pt_cmpR op_lt (pv 5) pe_int (nomark _)))))
          (pss_cons (ps_set (i := 8) scSay.nd rfl (.inl rfl) (pe_op op_fdiv (pv 4) pe_int))
          (pss_cons (ps_set (i := 9) scSay.nd rfl (.inl rfl) (pe_call ih hr3 (by rfl) gF F.kp bF .nil pass0 (pa_cons (pv 0) (pa_cons (pv 1) (pa_cons (pv 2) (pa_cons (pe_op op_sub (pv 3) pe_int) (pa_cons (pv 8) pa_nil)))))))
          (pss_one (ps_ret (pe_tup (pa_cons (pe_call U.FA hr2 (by rfl) U.gA U.kA U.bA .nil pass0 (pa_cons (pv 0) (pa_cons (pe_lst (pa_cons pe_str (pa_cons pe_str pa_nil))) pa_nil))) (pa_cons (pv 9) (pa_cons (pe_call ih hr3 (by rfl) gF F.kp bF .nil pass0 (pa_cons (pv 0) (pa_cons (pv 1) (pa_cons (pv 2) (pa_cons (pe_op op_sub (pv 3) pe_int) (pa_cons (pe_op op_sub (pv 4) (pv 8)) pa_nil)))))) pa_nil)))))))) pss_nil)
        (pss_cut (ps_if (PW.pt (pw_and (pt_cmpR op_gt (pv 3) pe_int (nomark _)) (pw_and1 (pt_cmpR op_eq (pv 5) pe_int (nomark _)))))
          (pss_one (ps_ret (pe_tup (pa_cons pe_str (pa_cons (pe_call ih hr3 (by rfl) gF F.kp bF .nil pass0 (pa_cons (pv 0) (pa_cons (pv 1) (pa_cons (pv 2) (pa_cons (pe_op op_sub (pv 3) pe_int) (pa_cons (pv 4) pa_nil)))))) pa_nil))))) pss_nil)
        (pss_cut (ps_if (PW.pt (pw_and (pt_cmpR op_gt (pv 1) pe_int (nomark _)) (pw_and1 (pt_cmpR op_lt (pv 5) pe_int (nomark _)))))
          (pss_one (ps_ret (pe_tup (pa_cons pe_str (pa_cons (pe_call U.FD hr1 (by rfl) U.gD U.kD U.bD .nil pass0 (pa_cons (pv 0) (pa_cons (pv 1) pa_nil)))
            (pa_cons (pe_call U.FA hr2 (by rfl) U.gA U.kA U.bA .nil pass0 (pa_cons (pv 0) (pa_cons (pv 2) pa_nil)))
            (pa_cons (pe_call U.FA hr2 (by rfl) U.gA U.kA U.bA .nil pass0 (pa_cons (pv 0) (pa_cons (pe_lst (pa_cons (pe_un un_neg pe_int) (pa_cons pe_int (pa_cons pe_int (pa_cons pe_int pa_nil))))) pa_nil))) pa_nil))))))) pss_nil)
        (pss_one (ps_ret (pe_tup (pa_cons (pe_call U.FA hr2 (by rfl) U.gA U.kA U.bA .nil pass0 (pa_cons (pv 0) (pa_cons (pe_lst (pa_cons pe_str (pa_cons pe_str (pa_cons pe_str pa_nil)))) pa_nil)))
            (pa_cons (pe_call U.FA hr2 (by rfl) U.gA U.kA U.bA .nil pass0 (pa_cons (pv 0) (pa_cons (pv 2) pa_nil)))
            (pa_cons (pe_call U.FA hr2 (by rfl) U.gA U.kA U.bA .nil pass0 (pa_cons (pv 0) (pa_cons (pv 2) pa_nil))) pa_nil)))))))))), ?_⟩
      obtain ⟨p2, ep2⟩ : ∃ p, p = 2 ^ r := ⟨_, rfl⟩
      have p2pos : 2 ≤ p2 := by
        rw [ep2]
        exact Nat.le_trans (by decide : 2 ≤ 2 ^ 1) (Nat.pow_le_pow_right (by decide) r1)
      rw [← ep2] at hk q
      -- the way is drawn
      refine ⟨fun σ G => ∃ way : Int, σ = [some (.ref b), some (.int many), some (.ref t), some (.int ((r : Nat) : Int)), some (.int bound), some (.int way), none, none, none, none] ∧ HandAt G b g (k + 1) ∧ Kept b H G, ?_, ?_⟩
      · exact ⟨_, rfl, b, g, k, 9, rfl, B, by omega, by decide, by decide, fun way G _ _ B1 k1 => ⟨way, rfl, B1, k1⟩⟩
      rintro σ G ⟨way, rfl, B1, k1⟩
      obtain ⟨σ1, eσ⟩ : ∃ σ1 : L2.St, σ1 = [some (.ref b), some (.int many), some (.ref t), some (.int ((r : Nat) : Int)), some (.int bound), some (.int way), none, none, none, none] := ⟨_, rfl⟩
      have ht1 : G t = some (.lst (L.map V.str)) := k1 t _ ht ntb
      have len1 : 0 < (L.map V.str).length := by
        rw [List.length_map]
        exact List.length_pos_iff.mpr ne
      have len2 : (L.map V.str).length ≤ 1000 := by rw [List.length_map]; omega
      -- a step deeper
      have step : 1 < r → ∃ m, r = m + 1 ∧ p2 = 2 * 2 ^ m ∧ 1 ≤ m ∧ m < n ∧ m ≤ 9 ∧ ((r : Nat) : Int) - 1 = (m : Int) ∧ 2 ≤ 2 ^ m := fun hr => by
        refine ⟨r - 1, by omega, ?_, by omega, by omega, by omega, by omega, ?_⟩
        · rw [ep2]
          have e : r = (r - 1) + 1 := by omega
          rw [e, Nat.pow_succ]
          simp
          omega
        · exact Nat.le_trans (by decide : 2 ≤ 2 ^ 1) (Nat.pow_le_pow_right (by decide) (by omega))
      -- all, some
      refine ⟨fun σ G' => G' = G ∧ σ = σ1, ?_, ?_⟩
      · refine ⟨_, rfl, _, 1, rfl, rfl, _, rfl, ?_⟩
        refine ite2 (fun c1 => ?_) (fun _ => ⟨rfl, eσ.symm⟩)
        have c1 : (1 : Int) < ((r : Nat) : Int) := of_decide_eq_true c1
        refine ⟨_, rfl, _, 0, rfl, rfl, _, rfl, ?_⟩
        refine ite2 (fun c2 => ?_) (fun _ => ⟨rfl, eσ.symm⟩)
        have c2 : (0 : Int) < bound := of_decide_eq_true c2
        refine ⟨_, rfl, t, _, rfl, .inl (SqL.of ht1), rfl, _, rfl, ?_⟩
        refine ite2 (fun c3 => ?_) (fun _ => ?_)
        · exfalso
          have c3 := of_decide_eq_true c3
          injection c3 with c3
          omega
        refine ⟨_, rfl, way, 3, rfl, rfl, _, rfl, ?_⟩
        refine ite2 (fun _ => ?_) (fun _ => ⟨rfl, eσ.symm⟩)
        obtain ⟨m, rfl, e2, m1, mn, m9, em, pm⟩ := step (by omega)
        refine ⟨_, rfl, (by show 4 ≤ sizeLine; decide), fun l hl => ?_⟩
        have s2 : Same G (upd G l (.lst (LN.map V.str))) := same_upd hl
        have hl2 : upd G l (.lst (LN.map V.str)) l = some (.lst (LN.map V.str)) := upd_same
        show spAny [.ref b, .ref l] (upd G l (.lst (LN.map V.str))) _ (fun _ _ _ => False)
        generalize upd G l (.lst (LN.map V.str)) = G2 at s2 hl2
        refine ⟨b, g, l, k + 1, _, rfl, B1.same s2, by omega, hl2, ne_b B1.some hl, by decide, by decide, fun v G3 hv B3 k3 => ?_⟩
        obtain ⟨z, hz, rfl⟩ := mem_strs hv
        obtain ⟨z1, z2⟩ := LN_ok z hz
        have k3' : Kept b H G3 := (k1.trans (Kept.of_same s2)).trans k3
        have ht3 : G3 t = some (.lst (L.map V.str)) := k3' t _ ht ntb
        refine ⟨_, rfl, _, rfl, _, rfl, _, rfl, (by show 1 ≤ sizeLine; decide), fun l2 hl2 => ?_⟩
        have s4 : Same G3 (upd G3 l2 (.lst [.str z])) := same_upd hl2
        have hl4 : upd G3 l2 (.lst [V.str z]) l2 = some (.lst [.str z]) := upd_same
        generalize upd G3 l2 (.lst [V.str z]) = G4 at s4 hl4
        refine ⟨t, l2, _, _, rfl, rfl, s4 _ _ ht3, hl4, ?_, fun l3 hl3 => ?_⟩
        · rw [List.length_map]
          exact Nat.le_trans (show L.length + 1 ≤ 1000 by omega) (by decide)
        have s5 : Same G3 (upd G4 l3 (.lst (L.map V.str ++ [V.str z]))) := s4.trans (same_upd hl3)
        have hl5 : upd G4 l3 (.lst (L.map V.str ++ [V.str z])) l3 = some (.lst ((L ++ [z]).map V.str)) := by rw [upd_same, List.map_append]; rfl
        have nl5 : l3 ≠ b := ne_b (Same.non s4 B3.some) hl3
        generalize upd G4 l3 (.lst (L.map V.str ++ [V.str z])) = G5 at s5 hl5
        refine ⟨_, rfl, _, 1, rfl, rfl, _, rfl, bound, 1, rfl, rfl, ?_⟩
        have hp : (2 : Nat) ^ (m + 1) = 2 * 2 ^ m := by rw [Nat.pow_succ]; omega
        refine ⟨b, g, l3, k + 2, many, bound - 1, m, L ++ [z], ?_, B3.same s5, by omega, m0, m5, hl5, nl5, lt.app z1 z2, by simp, ?_, m1, mn, m9, by omega, by omega, fun v d G6 hd th B6 k6 => ?_⟩
        · show [V.ref b, V.int many, V.ref l3, V.int (((m + 1 : Nat) : Int) - 1), V.int (bound - 1)] = _
          rw [em]
        · rw [List.length_append, List.length_singleton]; omega
        refine ⟨_, rfl, (by show 2 ≤ sizeLine; decide), fun l7 hl7 => ?_⟩
        have s7 : Same G6 (upd G6 l7 (.lst (LA.map V.str))) := same_upd hl7
        have hl7' : upd G6 l7 (.lst (LA.map V.str)) l7 = some (.lst (LA.map V.str)) := upd_same
        show spAny [.ref b, .ref l7] (upd G6 l7 (.lst (LA.map V.str))) _ (fun _ _ _ => False)
        generalize upd G6 l7 (.lst (LA.map V.str)) = G7 at s7 hl7'
        refine ⟨b, g, l7, k + 2 + (8 * 2 ^ m - 4), _, rfl, B6.same s7, by omega, hl7', ne_b B6.some hl7, by decide, by decide, fun v2 G8 hv2 B8 k8 => ?_⟩
        obtain ⟨y, hy, rfl⟩ := mem_strs hv2
        have k8' : Kept b G6 G8 := (Kept.of_same s7).trans k8
        refine ⟨_, rfl, _, rfl, (by show 3 ≤ sizeLine; decide), fun t9 ht9 => ?_⟩
        have s9 : Same G8 (upd G8 t9 (.tup [.str y, .str z, v])) := same_upd ht9
        refine q _ (.tuple [.str y, .str z, d]) _ (.tup (ne_b B8.some ht9) upd_same (.cons (.str y) (.cons (.str z) (.cons ((hd.keep k8').same s9) .nil)))) ?_ ((B8.same s9).mono (by omega)) ?_
        · exact (th3 (Th.str (LA_ok y hy) (Nat.le_refl 64)) (Th.str z2 (Nat.le_refl 64)) th).mono (Nat.le_refl _) (by omega)
        · exact ((((k3'.trans (Kept.of_same s5)).trans k6).trans k8').trans (Kept.of_same s9))
      rintro σ G' ⟨rfl, e1⟩
      rw [e1, eσ]
      -- and, or
      refine ⟨fun σ G => G = G' ∧ σ = σ1, ?_, ?_⟩
      · refine ⟨_, rfl, _, 1, rfl, rfl, _, rfl, ?_⟩
        refine ite2 (fun c1 => ?_) (fun _ => ⟨rfl, eσ.symm⟩)
        have c1 : (1 : Int) < ((r : Nat) : Int) := of_decide_eq_true c1
        refine ⟨_, rfl, way, 5, rfl, rfl, _, rfl, ?_⟩
        refine ite2 (fun _ => ?_) (fun _ => ⟨rfl, eσ.symm⟩)
        obtain ⟨m, rfl, e2, m1, mn, m9, em, pm⟩ := step (by omega)
        have hp : (2 : Nat) ^ (m + 1) = 2 * 2 ^ m := by rw [Nat.pow_succ]; omega
        refine ⟨_, rfl, bound, 2, rfl, rfl, ⟨by decide, by decide⟩, ?_⟩
        refine ⟨_, rfl, _, rfl, _, rfl, _, rfl, _, 1, rfl, rfl, _, rfl, ?_⟩
        refine ⟨b, g, t, k + 1, many, bound / 2, m, L, ?_, B1, by omega, m0, m5, ht1, ntb, lt, ne, by omega, m1, mn, m9, by omega, by omega, fun v d G2 hd th B2 k2 => ?_⟩
        · show [V.ref b, V.int many, V.ref t, V.int (((m + 1 : Nat) : Int) - 1), V.int (bound / 2)] = _
          rw [em]
        refine ⟨_, rfl, (by show 2 ≤ sizeLine; decide), fun l hl => ?_⟩
        have s3 : Same G2 (upd G2 l (.lst (LO.map V.str))) := same_upd hl
        have hl3 : upd G2 l (.lst (LO.map V.str)) l = some (.lst (LO.map V.str)) := upd_same
        show spAny [.ref b, .ref l] (upd G2 l (.lst (LO.map V.str))) _ (fun _ _ _ => False)
        generalize upd G2 l (.lst (LO.map V.str)) = G3 at s3 hl3
        refine ⟨b, g, l, k + 1 + (8 * 2 ^ m - 4), _, rfl, B2.same s3, by omega, hl3, ne_b B2.some hl, by decide, by decide, fun v2 G4 hv2 B4 k4 => ?_⟩
        obtain ⟨y, hy, rfl⟩ := mem_strs hv2
        have k4' : Kept b G2 G4 := (Kept.of_same s3).trans k4
        have kk : Kept b H G4 := (k1.trans k2).trans k4'
        have ht4 : G4 t = some (.lst (L.map V.str)) := kk t _ ht ntb
        refine ⟨_, rfl, _, rfl, _, rfl, _, rfl, _, rfl, _, 1, rfl, rfl, _, rfl, _, rfl, _, _, rfl, rfl, ?_⟩
        refine ⟨b, g, t, k + 1 + (8 * 2 ^ m - 4) + 1, many, bound - bound / 2, m, L, ?_, B4, by omega, m0, m5, ht4, ntb, lt, ne, by omega, m1, mn, m9, by omega, by omega, fun v3 d3 G5 hd3 th3' B5 k5 => ?_⟩
        · show [V.ref b, V.int many, V.ref t, V.int (((m + 1 : Nat) : Int) - 1), V.int (bound - bound / 2)] = _
          rw [em]
        refine ⟨(by show 3 ≤ sizeLine; decide), fun t9 ht9 => ?_⟩
        have s9 : Same G5 (upd G5 t9 (.tup [.str y, v, v3])) := same_upd ht9
        refine q _ (.tuple [.str y, d, d3]) _ (.tup (ne_b B5.some ht9) upd_same (.cons (.str y) (.cons (((hd.keep k4').keep k5).same s9) (.cons (hd3.same s9) .nil)))) ?_ ((B5.same s9).mono (by omega)) ?_
        · exact (th3 (Th.str (LO_ok y hy) (Nat.le_refl 64)) th th3').mono (Nat.le_refl _) (by omega)
        · exact (kk.trans k5).trans (Kept.of_same s9)
      rintro σ G ⟨rfl, e1⟩
      rw [e1, eσ]
      -- not
      refine ⟨fun σ G' => G' = G ∧ σ = σ1, ?_, ?_⟩
      · refine ⟨_, rfl, _, 1, rfl, rfl, _, rfl, ?_⟩
        refine ite2 (fun c1 => ?_) (fun _ => ⟨rfl, eσ.symm⟩)
        have c1 : (1 : Int) < ((r : Nat) : Int) := of_decide_eq_true c1
        refine ⟨_, rfl, rfl, _, rfl, ?_⟩
        refine ite2 (fun _ => ?_) (fun _ => ⟨rfl, eσ.symm⟩)
        obtain ⟨m, rfl, e2, m1, mn, m9, em, pm⟩ := step (by omega)
        have hp : (2 : Nat) ^ (m + 1) = 2 * 2 ^ m := by rw [Nat.pow_succ]; omega
        refine ⟨_, rfl, _, rfl, _, rfl, _, rfl, _, 1, rfl, rfl, _, rfl, ?_⟩
        refine ⟨b, g, t, k + 1, many, bound, m, L, ?_, B1, by omega, m0, m5, ht1, ntb, lt, ne, by omega, m1, mn, m9, by omega, by omega, fun v d G2 hd th B2 k2 => ?_⟩
        · show [V.ref b, V.int many, V.ref t, V.int (((m + 1 : Nat) : Int) - 1), V.int bound] = _
          rw [em]
        refine ⟨(by show 2 ≤ sizeLine; decide), fun t9 ht9 => ?_⟩
        have s9 : Same G2 (upd G2 t9 (.tup [.str (Str.ofString "not"), v])) := same_upd ht9
        refine q _ (.tuple [.str (Str.ofString "not"), d]) _ (.tup (ne_b B2.some ht9) upd_same (.cons (.str _) (.cons (hd.same s9) .nil))) ?_ ((B2.same s9).mono (by omega)) ?_
        · exact (th2 (Th.str not_ok (Nat.le_refl 64)) th).mono (Nat.le_refl _) (by omega)
        · exact (k1.trans k2).trans (Kept.of_same s9)
      rintro σ G' ⟨rfl, e1⟩
      rw [e1, eσ]
      -- is
      have anyL : ∀ (k' : Nat) (G1 : Hp) (R : VK), HandAt G1 b g k' → k' < 1000000000000 → Kept b H G1 → (∀ (z : Str) (G2 : Hp), z ∈ strs0 → HandAt G2 b g (k' + 1) → Kept b G1 G2 → R (.str z) G2) → spAny [.ref b, .ref t] G1 R (fun _ _ _ => False) := fun k' G1 R B' hk' kk r => by
        refine ⟨b, g, t, k', _, rfl, B', hk', kk t _ ht ntb, ntb, len1, len2, fun v G2 hv B2 k2 => ?_⟩
        obtain ⟨z, hz, rfl⟩ := mem_strs hv
        exact r z G2 (lt.st z hz) B2 k2
      refine ⟨fun σ G => G = G' ∧ σ = σ1, ?_, ?_⟩
      · refine ⟨_, rfl, _, 0, rfl, rfl, _, rfl, ?_⟩
        refine ite2 (fun c1 => ?_) (fun _ => ⟨rfl, eσ.symm⟩)
        have c1 : (0 : Int) < many := of_decide_eq_true c1
        refine ⟨_, rfl, way, 8, rfl, rfl, _, rfl, ?_⟩
        refine ite2 (fun _ => ?_) (fun _ => ⟨rfl, eσ.symm⟩)
        refine ⟨_, rfl, _, rfl, b, g, k + 1, many, rfl, B1, by omega, c1, Int.lt_of_le_of_lt m5 (by decide), fun i G2 i0 i1 B2 k2 => ?_⟩
        refine ⟨_, rfl, _, rfl, anyL (k + 2) G2 _ B2 (by omega) (k1.trans k2) fun z G3 hz B3 k3 => ?_⟩
        refine ⟨_, rfl, 1, rfl, (by show 4 ≤ sizeLine; decide), fun l hl => ?_⟩
        have s4 : Same G3 (upd G3 l (.lst (LS.map V.int))) := same_upd hl
        have hl4 : upd G3 l (.lst (LS.map V.int)) l = some (.lst (LS.map V.int)) := upd_same
        show spAny [.ref b, .ref l] (upd G3 l (.lst (LS.map V.int))) _ (fun _ _ _ => False)
        generalize upd G3 l (.lst (LS.map V.int)) = G4 at s4 hl4
        refine ⟨b, g, l, k + 3, _, rfl, B3.same s4, by omega, hl4, ne_b B3.some hl, by decide, by decide, fun v2 G5 hv2 B5 k5 => ?_⟩
        obtain ⟨y, hy, rfl⟩ := mem_ints hv2
        refine ⟨(by show 4 ≤ sizeLine; decide), fun t9 ht9 => ?_⟩
        have s9 : Same G5 (upd G5 t9 (.tup [.str (Str.ofString "is"), .int i, .str z, .int y])) := same_upd ht9
        refine q _ (.tuple [.str (Str.ofString "is"), .int i, .str z, .int y]) _ (.tup (ne_b B5.some ht9) upd_same (.cons (.str _) (.cons (.int i) (.cons (.str z) (.cons (.int y) .nil))))) ?_ ((B5.same s9).mono (by omega)) ?_
        · exact (th4 (D := 0) (Th.str is_ok (Nat.le_refl 64)) (Th.int (small_ok i0 (by omega)) (Nat.le_refl 64)) (Th.str hz (Nat.le_refl 64)) (Th.int (LS_ok y hy) (Nat.le_refl 64))).mono r1 (by omega)
        · exact ((((k1.trans k2).trans k3).trans (Kept.of_same s4)).trans k5).trans (Kept.of_same s9)
      rintro σ G ⟨rfl, e1⟩
      rw [e1, eσ]
      refine ⟨_, rfl, (by show 3 ≤ sizeLine; decide), fun l hl => ?_⟩
      have s2 : Same G (upd G l (.lst (LH.map V.str))) := same_upd hl
      have hl2 : upd G l (.lst (LH.map V.str)) l = some (.lst (LH.map V.str)) := upd_same
      show spAny [.ref b, .ref l] (upd G l (.lst (LH.map V.str))) _ (fun _ _ _ => False)
      generalize upd G l (.lst (LH.map V.str)) = G2 at s2 hl2
      refine ⟨b, g, l, k + 1, _, rfl, B1.same s2, by omega, hl2, ne_b B1.some hl, by decide, by decide, fun v2 G3 hv2 B3 k3 => ?_⟩
      obtain ⟨y, hy, rfl⟩ := mem_strs hv2
      have kk3 : Kept b H G3 := (k1.trans (Kept.of_same s2)).trans k3
      refine ⟨_, rfl, _, rfl, anyL (k + 2) G3 _ B3 (by omega) kk3 fun z G4 hz B4 k4 => ?_⟩
      refine ⟨_, rfl, _, rfl, anyL (k + 3) G4 _ B4 (by omega) (kk3.trans k4) fun z2 G5 hz2 B5 k5 => ?_⟩
      refine ⟨(by show 3 ≤ sizeLine; decide), fun t9 ht9 => ?_⟩
      have s9 : Same G5 (upd G5 t9 (.tup [.str y, .str z, .str z2])) := same_upd ht9
      refine q _ (.tuple [.str y, .str z, .str z2]) _ (.tup (ne_b B5.some ht9) upd_same (.cons (.str _) (.cons (.str z) (.cons (.str z2) .nil)))) ?_ ((B5.same s9).mono (by omega)) ?_
      · exact (th3 (D := 0) (Th.str (LH_ok y hy) (Nat.le_refl 64)) (Th.str hz (Nat.le_refl 64)) (Th.str hz2 (Nat.le_refl 64))).mono r1 (by omega)
      · exact ((kk3.trans k4).trans k5).trans (Kept.of_same s9)
end
end Nm

/-! t[::-1], t a tuple. -/
namespace Nm
open PySem PySem.Spec PyProof.Rows L2
theorem fm_congr {α β : Type} {f g : α → Option β} : ∀ {l : List α}, (∀ x ∈ l, f x = g x) → l.filterMap f = l.filterMap g
  | [], _ => rfl
  | a :: l, h => by rw [List.filterMap_cons, List.filterMap_cons, h a List.mem_cons_self, fm_congr fun x hx => h x (List.mem_cons_of_mem _ hx)]
section
variable {prog : Program} {w : World} {A : Around} {E : Value → Shared → Prop} {s : Shared}
theorem getItem_tuple_rev {t sl : Addr} {items : Array Value} {vl vu vs : Value} {Q : Value → Shared → Prop} (ht : IsTup s.heap t items) (hs : s.heap.IsSliceOf sl vl vu vs) (pl : IsPart vl none) (pu : IsPart vu none) (ps : IsPart vs (some (-1)))
    (h : Q (.ref s.heap.objs.size) { s with heap := s.heap.push { cls := .type "tuple", data := .seq items.toList.reverse.toArray } }) (hsz : items.size ≤ sizeLine) : wpAny (model prog w) A (getItem (.ref t) (.ref sl)) Q E s := by
  obtain ⟨os, hos, hcs, hds⟩ := id hs
  have hTs : s.TypeIs (.ref sl) "slice" := ⟨os, hos, hcs⟩
  have htake : sizeOk (.seq items.toList.reverse.toArray) := by
    show items.toList.reverse.toArray.size ≤ sizeLine
    rw [List.size_toArray, List.length_reverse, Array.length_toList]
    exact hsz
  unfold getItem
  try with_reducible refine wpAny_holding ?_
  first | refine wpAny_bind (wpAny_pure ?_) | skip
  refine wpAny_bind (wpAny_sequenceKey ht.typeIs (by decide) ?_)
  refine wpAny_bind (wpAny_callSpecial?_slot (name := Str.ofString "__getitem__") ht.typeIs PyProof.Rows.slot_tuple_getitem
    (wpAny_call_entry PyProof.Rows.slot_tuple_getitem ht.typeIs entry_tuple_getitem ?_ (args_tuple_getitem _ _)))
  show wpAny _ _ (Builtin.Tuple.tupleItemsOf (.ref t) >>= _) _ _ s
  refine wpAny_bind (tupleItemsOf_ ht ?_)
  refine wpAny_bind (wpAny_typeOf hTs ?_)
  rw [if_pos (by decide)]
  refine wpAny_bind ?_
  unfold Builtin.Slice.sliceApplied Builtin.Slice.sliceFields
  refine wpAny_bind (wpAny_bind (wpAny_field hos hds (x := vl) rfl (wpAny_bind (wpAny_field hos hds (x := vu) rfl (wpAny_bind (wpAny_field hos hds (x := vs) rfl (wpAny_pure ?_)))))))
  refine wpAny_bind (HT.slicePart_ ps ?_)
  show wpAny _ _ (if ((-1 : Int) == 0) = true then _ else _) _ _ s
  rw [if_neg (by decide)]
  refine wpAny_bind (HT.slicePart_ pl (wpAny_bind (HT.slicePart_ pu (wpAny_bind (wpAny_pure ?_)))))
  have adj : Builtin.Slice.sliceAdjust none none (-1) (items.size : Int) = ((items.size : Int) - 1, -1) := by
    unfold Builtin.Slice.sliceAdjust
    simp
  have plc : Builtin.Slice.slicePlaces ((items.size : Int) - 1) (-1) (-1) = items.size := by
    unfold Builtin.Slice.slicePlaces
    simp only [show ¬ ((-1 : Int) > 0) from by decide, if_false, show (- -1 : Int) = 1 from by decide, Int.ediv_one]
    split <;> omega
  show wpAny _ _ (match Builtin.Slice.sliceAdjust none none (-1) (items.size : Int) with | (lo, hi) => pure (lo, (-1 : Int), Builtin.Slice.slicePlaces lo hi (-1))) _ _ s
  rw [adj]
  show wpAny _ _ (pure ((items.size : Int) - 1, (-1 : Int), Builtin.Slice.slicePlaces ((items.size : Int) - 1) (-1) (-1))) _ _ s
  rw [plc]
  refine wpAny_pure ?_
  show wpAny _ _ (if (((items.size : Int) - 1) == 0 && (-1 : Int) == 1 && items.size == items.size) = true then _ else _) _ _ s
  have hno : ¬ ((((items.size : Int) - 1) == 0 && (-1 : Int) == 1 && items.size == items.size) = true) := by simp
  have pick : ((List.range items.size).filterMap fun (m : Nat) => items[((items.size : Int) - 1 + (m : Int) * (-1)).toNat]?).toArray = items.toList.reverse.toArray := by
    have e1 : ((List.range items.size).filterMap fun (m : Nat) => items[((items.size : Int) - 1 + (m : Int) * (-1)).toNat]?) = (List.range items.size).filterMap ((items[·]?) ∘ fun k => items.size - 1 - k) :=
      fm_congr fun m hm => by
        have hm := List.mem_range.mp hm
        have : ((items.size : Int) - 1 + (m : Int) * (-1)).toNat = items.size - 1 - m := by omega
        rw [this]
        rfl
    rw [e1, ← List.filterMap_map, PySem.W.krv_range, List.filterMap_reverse, PySem.W.krv_all]
  rw [if_neg hno, pick]
  first
    | exact wpAny_bind (m := Builtin.Tuple.tupleExact _) (wpAny_newObj_type (wpAny_pure ⟨_, rfl, wpAny_pure h⟩) htake)
    | exact wpAny_bind (m := Builtin.Tuple.tupleExact _) (wpAny_newObj_type (wpAny_bind (wpAny_pure (wpAny_pure ⟨_, rfl, wpAny_pure h⟩))) htake)
    | exact wpAny_bind (wpAny_bind (m := Builtin.Tuple.tupleExact _) (wpAny_newObj_type (wpAny_pure (wpAny_pure ⟨_, rfl, wpAny_pure h⟩)) htake))
    | exact wpAny_bind (wpAny_bind (m := Builtin.Tuple.tupleExact _) (wpAny_newObj_type (wpAny_pure ⟨_, rfl, wpAny_pure h⟩) htake))
end
def tRevT (K : PySem.W.Frag) (te : TE) : TE := fun σ H Q => te σ H fun x H1 => ∃ a xs, x = .ref a ∧ SqT K H1 a xs ∧ ∀ p, H1 p = none → Q (.ref p) (L2.upd H1 p (.tup xs.reverse))
theorem pe_revT {X : Cx} {e : Expr} {te : TE} {k : Nat} {p1 p2 p3 pos : Pos} (he : PE X e te) : PE X (.Subscript e (.Slice none none (some (.UnaryOp .USub (.Constant (.int 1) k p1) p2)) p3) pos) (tRevT X.K te) := by
  refine ⟨fun pins s σ H Q I h => ?_⟩
  refine Subscript_ (thn (he.run pins s σ H _ I h) fun v s1 ⟨x, H1, I1, r1, q1⟩ => ?_)
  obtain ⟨a, xs, ex, hx, q⟩ := q1
  subst ex
  cases r1
  have hst : PO X (some (.UnaryOp .USub (.Constant (.int 1) k p1) p2)) (tPart (tUn (rU fun i => .int (-i)) (tC (.int 1)))) := po_some (pe_un un_neg pe_int)
  refine wpAny_Slice (thn (po_none.run pins s1 σ H1 (fun o H2 => o = none ∧ H2 = H1) I1 ⟨rfl, rfl⟩) fun vl s2 ⟨l, H2, I2, pl, el, e2⟩ => ?_)
  subst el e2
  refine thn (po_none.run pins s2 σ H2 (fun o H3 => o = none ∧ H3 = H2) I2 ⟨rfl, rfl⟩) fun vu s3 ⟨u, H3, I3, pu, eu, e3⟩ => ?_
  subst eu e3
  refine thn (hst.run pins s3 σ H3 (fun o H4 => o = some (-1) ∧ H4 = H3) I3 ⟨1, rfl, -1, rfl, rfl, rfl⟩) fun vs s4 ⟨o, H4, I4, ps, eo, e4⟩ => ?_
  subst eo e4
  have I5 : Inv X pins σ H4 { s4 with heap := s4.heap.push { cls := .type "slice", data := .fields #[vl, vu, vs] } } := I4.kept (t' := s4.toks) fun b ob q => Heap.get?_push_of_some _ q
  obtain ⟨its, r, ht, hz⟩ := I5.tuple hx
  have hlen := r.length
  show wpAny (model X.prog X.w) X.A (subscriptTail e (.Slice none none (some (.UnaryOp .USub (.Constant (.int 1) k p1) p2)) p3) (.ref a) (.ref s4.heap.objs.size)) (EP X pins σ Q) X.xe { s4 with heap := s4.heap.push { cls := .type "slice", data := .fields #[vl, vu, vs] } }
  refine tail_any (ops := [.ref a, .ref s4.heap.objs.size]) ht.typeIs (PyProof.Rows.slot_tuple_getitem.lookup) ?_ (by with_unfolding_all rfl)
  refine getItem_tuple_rev ht (Heap.IsSliceOf.new _ vl vu vs) pl pu ps ?_ (by rw [List.size_toArray]; omega)
  refine ⟨.ref _, _, I5.laid (t' := s4.toks) (o := .tup xs.reverse) (fun b ob q => Heap.get?_push_of_some _ q) (Nat.le_refl _) ?_, rfl, q _ (I5.hok.fresh (Nat.le_refl _))⟩
  exact ⟨by rw [List.length_reverse]; exact hz, _, r.reverse, _, Heap.get?_push_size _ rfl, rfl, _, rfl⟩
end Nm

/-! What is changed: _law_odd, _law_bent. -/
namespace Nm
open PySem PySem.Spec PyProof.Rows L2
abbrev sBent : Stmt := topS 35
/-! ### tuples cut and joined -/
theorem cut_to {xs : List V} {j : Nat} (h : j ≤ xs.length) : cutV xs none (some (j : Int)) = xs.take j := by
  unfold cutV
  rw [show HT.sIx xs.length xs.length (some (j : Int)) = min j xs.length from HT.sIx_nat xs.length xs.length j, HT.sIx_none]
  have e : min j xs.length - 0 = j := by omega
  rw [e, List.drop_zero]
theorem cut_from {xs : List V} {j : Nat} (h : j < xs.length) : cutV xs (some ((j : Int) + 1)) none = xs.drop (j + 1) := by
  have e0 : ((j : Int) + 1) = ((j + 1 : Nat) : Int) := by omega
  unfold cutV
  rw [e0, show HT.sIx xs.length 0 (some ((j + 1 : Nat) : Int)) = min (j + 1) xs.length from HT.sIx_nat xs.length 0 (j + 1), HT.sIx_none]
  have e : min (j + 1) xs.length = j + 1 := by omega
  rw [e]
  exact List.take_of_length_le (by rw [List.length_drop]; omega)
theorem cut_to_ne {xs : List V} {j : Nat} (h : j < xs.length) : ¬ (HT.sIx xs.length 0 none = 0 ∧ HT.sIx xs.length xs.length (some (j : Int)) = xs.length) := by
  rw [show HT.sIx xs.length xs.length (some (j : Int)) = min j xs.length from HT.sIx_nat xs.length xs.length j]
  omega
theorem cut_from_ne {xs : List V} {j : Nat} (h : j < xs.length) : ¬ (HT.sIx xs.length 0 (some ((j : Int) + 1)) = 0 ∧ HT.sIx xs.length xs.length none = xs.length) := by
  have e0 : ((j : Int) + 1) = ((j + 1 : Nat) : Int) := by omega
  rw [e0, show HT.sIx xs.length 0 (some ((j + 1 : Nat) : Int)) = min (j + 1) xs.length from HT.sIx_nat xs.length 0 (j + 1)]
  omega
theorem sIx_last {n : Nat} (h : 0 < n) : HT.sIx n n (some (-1)) = n - 1 := by
  show (if (-1 : Int) < 0 then ((-1 : Int) + (n : Int)).toNat else min (-1 : Int).toNat n) = n - 1
  rw [if_pos (by decide)]
  omega
theorem cut_last {xs : List V} (h : 0 < xs.length) : cutV xs none (some (-1)) = xs.take (xs.length - 1) := by
  unfold cutV
  rw [sIx_last h, HT.sIx_none, List.drop_zero]
  rfl
theorem cut_last_ne {xs : List V} (h : 0 < xs.length) : ¬ (HT.sIx xs.length 0 none = 0 ∧ HT.sIx xs.length xs.length (some (-1)) = xs.length) := by
  rw [sIx_last h]
  omega
theorem cat_by {K : PySem.W.Frag} {b a c : Addr} {xs ys : List V} {H : Hp} {Q : VK} (ha : H a = some (.tup xs)) (na : a ≠ b) (hc : H c = some (.tup ys)) (nc : c ≠ b) (hb : H b ≠ none) (hz : xs.length + ys.length ≤ sizeLine)
    (q : ∀ (e : Addr) (H' : Hp), Same H H' → H' e = some (.tup (xs ++ ys)) → e ≠ b → Q (.ref e) H') : rCatA K (.ref a) (.ref c) H Q :=
  ⟨a, c, xs, ys, rfl, rfl, SqT.of ha, SqT.of hc, hz, fun e => q c H (Same.refl _) (by rw [e]; exact hc) nc, fun _ e => q a H (Same.refl _) (by rw [e, List.append_nil]; exact ha) na, fun _ _ p hp => q p _ (same_upd hp) upd_same (ne_b hb hp)⟩

/-! ### how deep and how long what comes of it is -/
theorem th_tup {ds : List PyData} {D L : Nat} : Th (.tuple ds) D L ↔ okds ds = true ∧ PyData.depthAll ds + 1 ≤ D ∧ 8 + szs ds ≤ L := ⟨fun h => ⟨h.ok, h.deep, h.long⟩, fun h => ⟨h.1, h.2.1, h.2.2⟩⟩
theorem th_lst {ds : List PyData} {D L : Nat} (h : Th (.tuple ds) D L) : Th (.list ds) D L := ⟨h.ok, h.deep, h.long⟩
theorem split_at {ds : List PyData} {j : Nat} {e : PyData} (h : ds[j]? = some e) : ds = ds.take j ++ ([e] ++ ds.drop (j + 1)) := by
  obtain ⟨a, b⟩ := List.getElem?_eq_some_iff.mp h
  rw [← b]
  simp
theorem th_put {ds : List PyData} {j : Nat} {e e' : PyData} {D L D' M : Nat} (h : Th (.tuple ds) D L) (hj : ds[j]? = some e) (h' : Th e' D' (sz e + M)) : Th (.tuple (ds.take j ++ [e'] ++ ds.drop (j + 1))) (max D (D' + 1)) (L + M) := by
  obtain ⟨a1, a2, a3⟩ := th_tup.mp h
  obtain ⟨b1, b2, b3⟩ := h'
  have s := split_at hj
  rw [s] at a1 a2 a3
  rw [okds_append, okds_append] at a1
  rw [depthAll_append, depthAll_append] at a2
  rw [szs_append, szs_append] at a3
  have e1 : okds [e'] = true := by
    show (okd e' && true) = true
    rw [b1]; rfl
  have e2 : PyData.depthAll [e'] = max e'.depth 0 := rfl
  have e3 : szs [e'] = sz e' + 2 + 0 := rfl
  have e4 : szs [e] = sz e + 2 + 0 := rfl
  refine th_tup.mpr ⟨?_, ?_, ?_⟩
  · rw [okds_append, okds_append]
    exact ⟨⟨a1.1, e1⟩, a1.2.2⟩
  · rw [depthAll_append, depthAll_append, e2]
    omega
  · rw [szs_append, szs_append, e3]
    rw [e4] at a3
    omega
theorem th_item {ds : List PyData} {j : Nat} {e : PyData} {D L : Nat} (h : Th (.tuple ds) D L) (hj : ds[j]? = some e) : e.depth + 1 ≤ D ∧ okd e = true ∧ sz e ≤ L := by
  obtain ⟨a1, a2, a3⟩ := th_tup.mp h
  have s := split_at hj
  rw [s] at a1 a2 a3
  rw [okds_append, okds_append] at a1
  rw [depthAll_append, depthAll_append] at a2
  rw [szs_append, szs_append] at a3
  have e2 : PyData.depthAll [e] = max e.depth 0 := rfl
  have e4 : szs [e] = sz e + 2 + 0 := rfl
  refine ⟨by omega, ?_, by omega⟩
  exact (Bool.and_eq_true_iff.mp (show (okd e && true) = true from a1.2.1)).1
theorem th_part {ds : List PyData} {D L : Nat} (n : Nat) (h : Th (.tuple ds) D L) : Th (.tuple (ds.take n)) D L ∧ Th (.tuple (ds.drop n)) D L := by
  obtain ⟨a1, a2, a3⟩ := th_tup.mp h
  rw [← List.take_append_drop n ds] at a1 a2 a3
  rw [okds_append] at a1
  rw [depthAll_append] at a2
  rw [szs_append] at a3
  exact ⟨th_tup.mpr ⟨a1.1, by omega, by omega⟩, th_tup.mpr ⟨a1.2, by omega, by omega⟩⟩
theorem th_rev {ds : List PyData} {D L : Nat} (h : Th (.tuple ds) D L) : Th (.tuple ds.reverse) D L := by
  obtain ⟨a1, a2, a3⟩ := th_tup.mp h
  have e2 : ∀ ds : List PyData, PyData.depthAll ds.reverse = PyData.depthAll ds := fun ds => by
    induction ds with
    | nil => rfl
    | cons x ds ih =>
      rw [List.reverse_cons, depthAll_append, ih]
      show max (PyData.depthAll ds) (max x.depth 0) = max x.depth (PyData.depthAll ds)
      omega
  have e3 : ∀ ds : List PyData, szs ds.reverse = szs ds := fun ds => by
    induction ds with
    | nil => rfl
    | cons x ds ih =>
      rw [List.reverse_cons, szs_append, ih]
      show szs ds + (sz x + 2 + 0) = sz x + 2 + szs ds
      omega
  refine th_tup.mpr ⟨okds_iff.mpr fun x hx => okds_iff.mp a1 x (List.mem_reverse.mp hx), by rw [e2]; exact a2, by rw [e3]; exact a3⟩
theorem th_join {xs ys : List PyData} {D L D' L' : Nat} (h : Th (.tuple xs) D L) (h' : Th (.tuple ys) D' L') : Th (.tuple (xs ++ ys)) (max D D') (L + L') := by
  obtain ⟨a1, a2, a3⟩ := th_tup.mp h
  obtain ⟨b1, b2, b3⟩ := th_tup.mp h'
  refine th_tup.mpr ⟨(okds_append _ _).mpr ⟨a1, b1⟩, ?_, ?_⟩
  · rw [depthAll_append]; omega
  · rw [szs_append]; omega
theorem szs_len : ∀ ds : List PyData, ds.length ≤ szs ds
  | [] => Nat.le_refl 0
  | x :: ds => by
    have := szs_len ds
    show ds.length + 1 ≤ sz x + 2 + szs ds
    omega
def LW : List Str := (["is", "ahead", "same", "not", "and", "or", "all", "some", "any", "Is"] : List String).map Str.ofString
theorem LW_ok : ∀ z ∈ LW, z ∈ strs0 := by decide +kernel
def LQ : List Str := (["x", "is", "", "X", "abcdefghi"] : List String).map Str.ofString
theorem LQ_ok : ∀ z ∈ LQ, z ∈ strs0 := by decide +kernel
def LI : List Int := [-1, 0, 1, 5, 10 ^ 29]
theorem LI_ok : ∀ z ∈ LI, z ∈ ints0 := by decide +kernel
/-- every value in a list is a thing, so deep and so long at most -/
def AllTh (b : Addr) (H : Hp) (D L : Nat) (xs : List V) : Prop := ∀ v ∈ xs, ∃ d, DZ b H v d ∧ Th d D L
theorem AllTh.nil {b : Addr} {H : Hp} {D L : Nat} : AllTh b H D L [] := fun _ h => nomatch h
theorem AllTh.cons {b : Addr} {H : Hp} {D L : Nat} {v : V} {vs : List V} {d : PyData} (h : DZ b H v d) (t : Th d D L) (r : AllTh b H D L vs) : AllTh b H D L (v :: vs) := fun y hy => by
  rcases List.mem_cons.mp hy with rfl | hy
  · exact ⟨d, h, t⟩
  · exact r y hy
theorem AllTh.same {b : Addr} {H H' : Hp} {D L : Nat} {vs : List V} (h : AllTh b H D L vs) (k : Kept b H H') : AllTh b H' D L vs := fun y hy => by
  obtain ⟨d, a, t⟩ := h y hy
  exact ⟨d, a.keep k, t⟩
theorem AllTh.strs {b : Addr} {H : Hp} {D L : Nat} {S : List Str} {vs : List V} (ok : ∀ z ∈ S, z ∈ strs0) (hL : 64 ≤ L) (r : AllTh b H D L vs) : AllTh b H D L (S.map V.str ++ vs) := fun y hy => by
  rcases List.mem_append.mp hy with hy | hy
  · obtain ⟨z, hz, rfl⟩ := mem_strs hy
    exact ⟨.str z, .str z, Th.str (ok z hz) hL⟩
  · exact r y hy
section
variable {P : Program} {w : World} {K : PySem.W.Frag} {mg : Str → Option Value} {base : Heap}
/-! ### _law_odd -/
structure OddT (P : Program) (w : World) (K : PySem.W.Frag) (mg : Str → Option Value) (base : Heap) extends DrwT P w K mg base where
  fP : Addr
  fdP : FuncData
  FP : FnOk P w K mg base CX0 1 fP fdP ["many"] spDeep
  bP : Binds K fdP ["many"] []
  gP : mg "_law_deep" = some (.ref fP)
  kP : PySem.W.keepIn K (.ref fP) = true
def spOdd : Sp := fun vs H Q _ => ∃ (b g : Addr) (k : Nat), vs = [.ref b] ∧ HandAt H b g k ∧ k + 2 < 1000000000000 ∧
  ∀ (v : V) (d : PyData) (H' : Hp), DZ b H' v d → Th d 9 100 → HandAt H' b g (k + 2) → Kept b H H' → Q v H'
theorem scOdd : FnScope ["hand", "odd"] ["hand"] (defScope sOdd) := ⟨rfl, rfl, rfl, by decide +kernel, rfl, by decide +kernel, by decide +kernel⟩
theorem ok_odd {f : Addr} {fd : FuncData} (F : Fun K "_law_odd" "_law_odd" sOdd f fd) (T : WdT mg) (U : OddT P w K mg base) : FnOk P w K mg base CX0 2 f fd ["hand"] spOdd := by
  refine F.ok scOdd (fun vs H Q E h => ?_) (fun cdv A outer s H vs Q E hr h => ?_)
  · obtain ⟨b, g, k, rfl, _⟩ := h
    rfl
  · obtain ⟨b, g, k, rfl, B, hk, q⟩ := h
    refine ⟨_, pss_cut (ps_set (i := 1) scOdd.nd rfl (.inl rfl) (pe_lst (pa_cons pe_non (pa_cons pe_bl (pa_cons pe_bl (pa_cons (pe_un un_neg pe_int) (pa_cons pe_int (pa_cons pe_int (pa_cons pe_int (pa_cons (pe_op op_pow pe_int pe_int)
        (pa_cons pe_str (pa_cons pe_str (pa_cons pe_str (pa_cons pe_str (pa_cons pe_str (pa_cons (pe_tup pa_nil) (pa_cons (pe_lst pa_nil) (pa_cons pe_dnewK (pa_cons (pe_tup (pa_cons pe_str pa_nil)) (pa_cons (pe_tup (pa_cons pe_str pa_nil)) pa_nil))))))))))))))))))))
      (pss_one (ps_ret (pe_ix ix_list (pe_op op_cat (pv 1) (pe_lst (pa_cons (pe_call U.FP hr (by rfl) U.gP U.kP U.bP .nil pass0 (pa_cons (pe_op op_add pe_int (pe_call U.FD hr (by rfl) U.gD U.kD U.bD .nil pass0 (pa_cons (pv 0) (pa_cons pe_int pa_nil)))) pa_nil)) pa_nil)))
        (pe_call U.FD hr (by rfl) U.gD U.kD U.bD .nil pass0 (pa_cons (pv 0) (pa_cons pe_int pa_nil))) (fun _ _ => rfl)))), ?_⟩
    refine ⟨fun σ G => Same H G ∧ ∃ (o : Addr) (xs : List V), σ = [some (.ref b), some (.ref o)] ∧ G o = some (.lst xs) ∧ o ≠ b ∧ xs.length = 18 ∧ AllTh b G 9 100 xs, ?_, ?_⟩
    · refine ⟨1, rfl, 10, 29, rfl, rfl, ⟨by decide, by decide, by decide⟩, ?_⟩
      refine ⟨Nat.zero_le _, fun p1 h1 => ⟨Nat.zero_le _, fun p2 h2 => fun p3 h3 => ⟨(by show 1 ≤ sizeLine; decide), fun p4 h4 => ⟨(by show 1 ≤ sizeLine; decide), fun p5 h5 => ⟨(by show 18 ≤ sizeLine; decide), fun o ho => ?_⟩⟩⟩⟩⟩
      have nb := B.some
      have s1 := same_upd (o := .tup []) h1
      have s2 := s1.trans (same_upd (o := .lst []) h2)
      have s3 := s2.trans (same_upd (o := .dK []) h3)
      have s4 := s3.trans (same_upd (o := .tup [.str (Str.ofString "x")]) h4)
      have s5 := s4.trans (same_upd (o := .tup [.str (Str.ofString "not")]) h5)
      have e1 : upd H p1 (.tup []) p1 = some (.tup []) := upd_same
      have e2 : upd (upd H p1 (.tup [])) p2 (.lst []) p2 = some (.lst []) := upd_same
      have e3 : upd (upd (upd H p1 (.tup [])) p2 (.lst [])) p3 (.dK []) p3 = some (.dK []) := upd_same
      have e4 : upd (upd (upd (upd H p1 (.tup [])) p2 (.lst [])) p3 (.dK [])) p4 (.tup [.str (Str.ofString "x")]) p4 = some (.tup [.str (Str.ofString "x")]) := upd_same
      have e5 : upd (upd (upd (upd (upd H p1 (.tup [])) p2 (.lst [])) p3 (.dK [])) p4 (.tup [.str (Str.ofString "x")])) p5 (.tup [.str (Str.ofString "not")]) p5 = some (.tup [.str (Str.ofString "not")]) := upd_same
      have t6 := same_upd (o := .lst [.non, .bl true, .bl false, .int (-1), .int 0, .int 1, .int 5, .int (10 ^ 29), .str (Str.ofString "x"), .str (Str.ofString "is"), .str (Str.ofString ""), .str (Str.ofString "X"), .str (Str.ofString "abcdefghi"), .ref p1, .ref p2, .ref p3, .ref p4, .ref p5]) ho
      have t5 := (same_upd (o := .tup [.str (Str.ofString "not")]) h5).trans t6
      have t4 := (same_upd (o := .tup [.str (Str.ofString "x")]) h4).trans t5
      have t3 := (same_upd (o := .dK []) h3).trans t4
      have t2 := (same_upd (o := .lst []) h2).trans t3
      refine ⟨s5.trans t6, o, _, rfl, upd_same, ne_b (Same.non s5 nb) ho, rfl, ?_⟩
      refine .cons .non ⟨rfl, by decide, by decide⟩ (.cons (.bl true) ⟨rfl, by decide, by decide⟩ (.cons (.bl false) ⟨rfl, by decide, by decide⟩
        (.cons (.int (-1)) (Th.int (LI_ok _ (by decide +kernel)) (by decide)) (.cons (.int 0) (Th.int (LI_ok _ (by decide +kernel)) (by decide)) (.cons (.int 1) (Th.int (LI_ok _ (by decide +kernel)) (by decide)) (.cons (.int 5) (Th.int (LI_ok _ (by decide +kernel)) (by decide)) (.cons (.int (10 ^ 29)) (Th.int (LI_ok _ (by decide +kernel)) (by decide))
        ?_)))))))
      refine (?_ : AllTh b _ 9 100 (LQ.map V.str ++ [.ref p1, .ref p2, .ref p3, .ref p4, .ref p5]))
      refine AllTh.strs LQ_ok (by decide) ?_
      refine .cons (.tup (ds := []) (ne_b nb h1) (t2 _ _ e1) .nil) ⟨rfl, by decide, by decide⟩ (.cons (.lst (ne_b (Same.non s1 nb) h2) (t3 _ _ e2) .nil) ⟨rfl, by decide, by decide⟩ (.cons (.dic (ne_b (Same.non s2 nb) h3) (t4 _ _ e3)) ⟨rfl, by decide, by decide⟩
        (.cons (.tup (ne_b (Same.non s3 nb) h4) (t5 _ _ e4) (.cons (.str _) .nil)) ((th1 (D := 0) (Th.str (LQ_ok _ (by decide +kernel)) (Nat.le_refl 64))).mono (by decide) (by decide))
        (.cons (.tup (ne_b (Same.non s4 nb) h5) (t6 _ _ e5) (.cons (.str _) .nil)) ((th1 (D := 0) (Th.str not_ok (Nat.le_refl 64))).mono (by decide) (by decide)) .nil))))
    · rintro σ G ⟨sG, o, xs, rfl, ho, no, lx, all⟩
      have B1 := B.same sG
      refine ⟨_, rfl, _, rfl, b, g, k, 7, rfl, B1, by omega, by decide, by decide, fun r G2 r0 r7 B2 k2 => ⟨1, r, rfl, rfl, ?_⟩⟩
      obtain ⟨n, rfl⟩ : ∃ n : Nat, r = (n : Int) := ⟨r.toNat, by omega⟩
      have e1 : (1 : Int) + (n : Int) = ((n + 1 : Nat) : Int) := by omega
      refine ⟨b, n + 1, by show [V.int ((1 : Int) + (n : Int))] = _; rw [e1], by omega, B2.some, fun v G3 s3 dv => ?_⟩
      refine ⟨(by show 1 ≤ sizeLine; decide), fun l hl => ?_⟩
      have s4 : Same G3 (upd G3 l (.lst [v])) := same_upd hl
      have hl4 : upd G3 l (.lst [v]) l = some (.lst [v]) := upd_same
      generalize upd G3 l (.lst [v]) = G4 at s4 hl4
      have B4 := (B2.same s3).same s4
      have k4 : Kept b G G4 := (k2.trans (Kept.of_same s3)).trans (Kept.of_same s4)
      have ho4 := k4 o _ ho no
      refine ⟨o, l, xs, [v], rfl, rfl, ho4, hl4, ?_, fun z hz => ?_⟩
      · rw [lx]
        show 18 + 1 ≤ sizeLine
        decide
      have s5 : Same G4 (upd G4 z (.lst (xs ++ [v]))) := same_upd hz
      have hz5 : upd G4 z (.lst (xs ++ [v])) z = some (.lst (xs ++ [v])) := upd_same
      have nz : z ≠ b := ne_b B4.some hz
      generalize upd G4 z (.lst (xs ++ [v])) = G5 at s5 hz5
      refine ⟨_, rfl, b, g, k + 1, 19, rfl, B4.same s5, by omega, by decide, by decide, fun r G6 r0 r19 B6 k6 => ?_⟩
      obtain ⟨j, rfl⟩ : ∃ j : Nat, r = (j : Int) := ⟨r.toNat, by omega⟩
      have hj : j < (xs ++ [v]).length := by rw [List.length_append, lx]; show j < 18 + 1; omega
      have hv : (xs ++ [v])[j]? = some (xs ++ [v])[j] := List.getElem?_eq_getElem hj
      refine ⟨z, _, (j : Int), (xs ++ [v])[j], rfl, rfl, SqL.of (k6 z _ hz5 nz), atI_nat hv, ?_⟩
      have k56 : Kept b G4 G6 := (Kept.of_same s5).trans k6
      have all2 : AllTh b G6 9 100 (xs ++ [v]) := fun y hy => by
        rcases List.mem_append.mp hy with hy | hy
        · exact (all.same (k4.trans k56)) y hy
        · obtain rfl := List.mem_singleton.mp hy
          exact ⟨_, (dv.same s4).keep k56, (deepT_th (n + 1)).mono (by omega) (by omega)⟩
      obtain ⟨d, dz, td⟩ := all2 _ (List.getElem_mem hj)
      exact q _ d G6 dz td B6 (((Kept.of_same sG).trans k4).trans k56)
end
end Nm

/-! _law_bent: a thing with one part otherwise. -/
namespace Nm
open PySem PySem.Spec PyProof.Rows L2
section
variable {P : Program} {w : World} {K : PySem.W.Frag} {mg : Str → Option Value} {base : Heap}
structure BntT (P : Program) (w : World) (K : PySem.W.Frag) (mg : Str → Option Value) (base : Heap) extends DrwT P w K mg base where
  fO : Addr
  fdO : FuncData
  FO : FnOk P w K mg base CX0 2 fO fdO ["hand"] spOdd
  bO : Binds K fdO ["hand"] []
  gO : mg "_law_odd" = some (.ref fO)
  kO : PySem.W.keepIn K (.ref fO) = true
def spBent (n : Nat) : Sp := fun vs H Q _ => ∃ (b g : Addr) (k : Nat) (x : V) (d : PyData) (D L : Nat), vs = [.ref b, x] ∧ HandAt H b g k ∧ k + 10 * n < 1000000000000 ∧ DZ b H x d ∧ Th d D L ∧ D < n ∧ L ≤ 1000000 ∧
  ∀ (v : V) (d' : PyData) (H' : Hp), DZ b H' v d' → Th d' (D + 9) (sz d + 300) → HandAt H' b g (k + 10 * n) → Kept b H H' → Q v H'
abbrev nBent : List Str := ["hand", "thing", "spot", "way", "some", "words"]
abbrev aBent : List Str := ["hand", "thing"]
theorem scBent : FnScope nBent aBent (defScope sBent) := ⟨rfl, rfl, rfl, by decide +kernel, rfl, by decide +kernel, by decide +kernel⟩
theorem ok_bent {f : Addr} {fd : FuncData} (F : Fun K "_law_bent" "_law_bent" sBent f fd) (T : WdT mg) (U : BntT P w K mg base) (bF : Binds K fd aBent []) (gF : mg "_law_bent" = some (.ref f)) : ∀ n, FnOk P w K mg base CX0 (n + 3) f fd aBent (spBent n) := by
  intro n
  induction n with
  | zero =>
    refine ⟨fun vs H Q E h => ?_, fun A outer s H args us vs Q E hr he hb hv h => ?_⟩
    · obtain ⟨b, g, k, x, d, D, L, rfl, _⟩ := h
      rfl
    · obtain ⟨b, g, k, x, d, D, L, rfl, _, _, _, _, z, _⟩ := h
      exact absurd z (Nat.not_lt_zero _)
  | succ n ih =>
    refine F.ok scBent (fun vs H Q E h => ?_) (fun cdv A outer s H vs Q E hr h => ?_)
    · obtain ⟨b, g, k, x, d, D, L, rfl, _⟩ := h
      rfl
    · obtain ⟨b, g, k, x, d, D, L, rfl, B, hk, hd, th, hDn, hL, q⟩ := h
      have hr1 : Room 1 _ := hr.mono (by omega)
      have hr2 : Room 2 _ := hr.mono (by omega)
      have hr3 : Room (n + 3) _ := hr
      refine ⟨_, pss_cut (ps_if (PW.pt (pw_or (pt_not (pt_val (pe_callB call_isi (by rfl) T.isi (by decide +kernel) (pa_cons (pv 1) (pa_cons (pe_bltn (v := .ty "tuple") (by rfl) T.tup (by decide +kernel) rfl) pa_nil)))))
            (pw_or (pt_cmpR op_eq (pe_callB call_len_seq (by rfl) T.len PySem.boot_len (pa_cons (pv 1) pa_nil)) pe_int (nomark _))
            (pw_or1 (pt_cmpR op_eq (pe_call U.FD hr1 (by rfl) U.gD U.kD U.bD .nil pass0 (pa_cons (pv 0) (pa_cons pe_int pa_nil))) pe_int (nomark _))))))
          (pss_one (ps_ret (pe_call U.FO hr2 (by rfl) U.gO U.kO U.bO .nil pass0 (pa_cons (pv 0) pa_nil)))) pss_nil)
        (pss_cut (ps_par (i := 2) (j := 3) (by rfl) scBent.nd rfl rfl (by decide) rfl rfl (pa_cons (pe_call U.FD hr1 (by rfl) U.gD U.kD U.bD .nil pass0 (pa_cons (pv 0) (pa_cons (pe_callB call_len_seq (by rfl) T.len PySem.boot_len (pa_cons (pv 1) pa_nil)) pa_nil)))
            (pa_cons (pe_call U.FD hr1 (by rfl) U.gD U.kD U.bD .nil pass0 (pa_cons (pv 0) (pa_cons pe_int pa_nil))) pa_nil)) (by rfl))
        (pss_cut (ps_if (PW.pt (pw_and (pt_val (pe_callB call_isi (by rfl) T.isi (by decide +kernel) (pa_cons (pe_ix ix_tup (pv 1) (pv 2) (fun _ _ => rfl)) (pa_cons (pe_bltn (v := .ty "tuple") (by rfl) T.tup (by decide +kernel) rfl) pa_nil)))) (pw_and1 (pt_cmpR op_lt (pv 3) pe_int (nomark _)))))
          (pss_one (ps_ret (pe_op op_catA (pe_op op_catA (pe_slice sl_tup (pv 1) po_none (po_some (pv 2))) (pe_tup (pa_cons (pe_call ih hr3 (by rfl) gF F.kp bF .nil pass0 (pa_cons (pv 0) (pa_cons (pe_ix ix_tup (pv 1) (pv 2) (fun _ _ => rfl)) pa_nil))) pa_nil)))
            (pe_slice sl_tup (pv 1) (po_some (pe_op op_add (pv 2) pe_int)) po_none)))) pss_nil)
        (pss_cut (ps_if (pt_cmpR op_eq (pv 3) pe_int (nomark _))
          (pss_cons (ps_set (i := 4) scBent.nd rfl (.inl rfl) (pe_lst (pa_cons (pe_callTy call_list_of (by rfl) T.list (by decide +kernel) (pa_cons (pv 1) pa_nil)) (pa_cons (pe_op op_catA (pv 1) (pe_tup (pa_cons pe_int pa_nil)))
              (pa_cons (pe_slice sl_tup (pv 1) po_none (po_some (pe_un un_neg pe_int))) (pa_cons (pe_revT (pv 1)) (pa_cons (pe_tup (pa_cons pe_str (pa_cons (pv 1) pa_nil))) (pa_cons (pe_tup (pa_cons pe_str (pa_cons (pe_tup (pa_cons pe_str (pa_cons (pv 1) pa_nil))) pa_nil))) pa_nil))))))))
          (pss_one (ps_ret (pe_call U.FA hr2 (by rfl) U.gA U.kA U.bA .nil pass0 (pa_cons (pv 0) (pa_cons (pv 4) pa_nil)))))) pss_nil)
        (pss_cut (ps_if (pt_cmpR op_eq (pv 2) pe_int (nomark _))
          (pss_cons (ps_set (i := 5) scBent.nd rfl (.inl rfl) (pe_lst (pa_cons pe_str (pa_cons pe_str (pa_cons pe_str (pa_cons pe_str (pa_cons pe_str (pa_cons pe_str (pa_cons pe_str (pa_cons pe_str (pa_cons pe_str (pa_cons pe_str (pa_cons pe_non (pa_cons pe_int pa_nil))))))))))))))
          (pss_one (ps_ret (pe_op op_catA (pe_tup (pa_cons (pe_call U.FA hr2 (by rfl) U.gA U.kA U.bA .nil pass0 (pa_cons (pv 0) (pa_cons (pv 5) pa_nil))) pa_nil)) (pe_slice sl_tup (pv 1) (po_some pe_int) po_none))))) pss_nil)
        (pss_one (ps_ret (pe_op op_catA (pe_op op_catA (pe_slice sl_tup (pv 1) po_none (po_some (pv 2))) (pe_tup (pa_cons (pe_call U.FO hr2 (by rfl) U.gO U.kO U.bO .nil pass0 (pa_cons (pv 0) pa_nil)) pa_nil)))
            (pe_slice sl_tup (pv 1) (po_some (pe_op op_add (pv 2) pe_int)) po_none)))))))), ?_⟩
      have nb := B.some
      have odd : ∀ (k' : Nat) (G : Hp) (R : VK), k' ≤ k + 3 → HandAt G b g k' → Kept b H G → (∀ (v : V) (d' : PyData) (G2 : Hp), DZ b G2 v d' → Th d' 9 100 → HandAt G2 b g (k' + 2) → Kept b H G2 → R v G2) → spOdd [.ref b] G R (fun _ _ _ => False) := fun k' G R hk' B' kk r =>
        ⟨b, g, k', rfl, B', by omega, fun v d' G2 dz t B2 k2 => r v d' G2 dz t B2 (kk.trans k2)⟩
      have oddQ : ∀ (k' : Nat) (G : Hp), k' ≤ k + 3 → HandAt G b g k' → Kept b H G → spOdd [.ref b] G Q (fun _ _ _ => False) := fun k' G hk' B' kk =>
        odd k' G Q hk' B' kk fun v d' G2 dz t B2 k2 => q v d' G2 dz (t.mono (by omega) (by omega)) (B2.mono (by omega)) k2
      -- what is no tuple, or the first draw says so
      refine ⟨fun σ G => σ = [some (.ref b), some x, none, none, none, none] ∧ HandAt G b g (k + 1) ∧ Kept b H G ∧ ∃ (a : Addr) (xs : List V) (ds : List PyData), x = .ref a ∧ d = .tuple ds ∧ a ≠ b ∧ H a = some (.tup xs) ∧ DZs b H xs ds ∧ 0 < xs.length, ?_, ?_⟩
      · refine ⟨_, rfl, _, _, _, _, _, rfl, .ty "tuple", dz_ty hd, kit_t d, _, rfl, ?_⟩
        have go : spOdd [.ref b] H Q (fun _ _ _ => False) := oddQ k H (by omega) B (Kept.refl H)
        cases d with
        | none => exact iteT ⟨_, rfl, go⟩
        | bool c => exact iteT ⟨_, rfl, go⟩
        | int i => exact iteT ⟨_, rfl, go⟩
        | str z => exact iteT ⟨_, rfl, go⟩
        | list z => exact iteT ⟨_, rfl, go⟩
        | dict z => exact iteT ⟨_, rfl, go⟩
        | tuple ds =>
          refine iteF ?_
          cases hd with
          | @tup a xs _ na ha hx =>
          refine ⟨_, rfl, a, xs, rfl, .inr (SqT.of ha), rfl, _, rfl, ?_⟩
          refine ite2 (fun _ => ⟨_, rfl, go⟩) (fun c => ?_)
          have l0 : 0 < xs.length := by
            refine Nat.pos_of_ne_zero fun z => c ?_
            rw [z]
            exact decide_eq_true rfl
          refine ⟨_, rfl, b, g, k, 7, rfl, B, by omega, by decide, by decide, fun r G r0 r7 B1 k1 => ⟨rfl, _, rfl, ?_⟩⟩
          refine ite2 (fun _ => ⟨_, rfl, oddQ (k + 1) G (by omega) B1 k1⟩) (fun _ => ?_)
          exact ⟨rfl, B1, k1, a, xs, ds, rfl, rfl, na, ha, hx, l0⟩
      rintro σ G ⟨rfl, B1, k1, a, xs, ds, rfl, rfl, na, ha, hx, l0⟩
      have hl := hx.len
      have hsz : xs.length ≤ 1000000 := by
        have h1 := szs_len ds
        have h2 := th.long
        have h3 : sz (.tuple ds) = 8 + szs ds := rfl
        omega
      have th0 : Th (.tuple ds) D (sz (.tuple ds)) := ⟨th.ok, th.deep, Nat.le_refl _⟩
      have D1 : 1 ≤ D := by
        have h2 : PyData.depthAll ds + 1 ≤ D := th.deep
        omega
      -- the spot, the way
      refine ⟨fun σ G' => ∃ (j : Nat) (way : Int), σ = [some (.ref b), some (.ref a), some (.int ((j : Nat) : Int)), some (.int way), none, none] ∧ j < xs.length ∧ HandAt G' b g (k + 3) ∧ Kept b H G', ?_, ?_⟩
      · refine ⟨_, rfl, _, rfl, a, xs, rfl, .inr (SqT.of (k1 a _ ha na)), b, g, k + 1, ((xs.length : Nat) : Int), rfl, B1, by omega, by omega, Int.lt_of_le_of_lt (show ((xs.length : Nat) : Int) ≤ 1000000 by omega) (by decide), fun r G2 r0 r1 B2 k2 => ?_⟩
        refine ⟨_, rfl, b, g, k + 2, 7, rfl, B2, by omega, by decide, by decide, fun way G3 _ _ B3 k3 => ?_⟩
        refine ⟨_, _, rfl, r.toNat, way, ?_, by omega, B3, (k1.trans k2).trans k3⟩
        have e : ((r.toNat : Nat) : Int) = r := by omega
        rw [e]
        rfl
      rintro σ G2 ⟨j, way, rfl, hj, B2, k2⟩
      obtain ⟨σ1, eσ⟩ : ∃ σ1 : L2.St, σ1 = [some (.ref b), some (.ref a), some (.int ((j : Nat) : Int)), some (.int way), none, none] := ⟨_, rfl⟩
      have ha2 : G2 a = some (.tup xs) := k2 a _ ha na
      have hx2 : DZs b G2 xs ds := hx.keep k2
      have hxj : xs[j]? = some xs[j] := List.getElem?_eq_getElem hj
      obtain ⟨e, hej, hxe⟩ := hx2.at hxj
      obtain ⟨de1, de2, de3⟩ := th_item th0 hej
      -- something is put into the j-th place
      have tail : ∀ (G4 : Hp) (k' : Nat) (v : V) (d' : PyData) (p1 : Addr), HandAt G4 b g k' → k' ≤ k + 10 * (n + 1) → Kept b G2 G4 → G4 p1 = some (.tup (xs.take j)) → p1 ≠ b → DZ b G4 v d' → Th d' (D + 8) (sz e + 300) →
          (1 ≤ sizeLine ∧ ∀ p, G4 p = none → rCatA K (.ref p1) (.ref p) (upd G4 p (.tup [v])) fun z H1 =>
            tSl (rSlT K) (tVar 1) (tPart (tOp (rI0 fun i j => V.int (i + j)) (tVar 2) (tC (V.int 1)))) tNoPart [some (.ref b), some (.ref a), some (.int ((j : Nat) : Int)), some (.int way), none, none] H1 fun y H2 => rCatA K z y H2 Q) := by
        intro G4 k' v d' p1 B4 hk' k4 e4 n4 dv tv
        refine ⟨by decide, fun p hp => ?_⟩
        have np : p ≠ b := ne_b B4.some hp
        have s5 : Same G4 (upd G4 p (.tup [v])) := same_upd hp
        have e5 : upd G4 p (.tup [v]) p = some (.tup [v]) := upd_same
        generalize upd G4 p (.tup [v]) = G5 at s5 e5
        refine cat_by (b := b) (s5 _ _ e4) n4 e5 np (Same.non s5 B4.some) ?_ fun c G6 s6 hc nc => ?_
        · rw [List.length_take]
          exact Nat.le_trans (show min j xs.length + 1 ≤ 1000001 by omega) (by decide)
        have k6 : Kept b G2 G6 := k4.trans (Kept.of_same (s5.trans s6))
        refine ⟨_, rfl, _, rfl, _, 1, rfl, rfl, _, rfl, a, xs, rfl, SqT.of (k6 _ _ ha2 na), cut_from_ne hj, fun p2 hp2 => ?_⟩
        rw [cut_from hj]
        have n7 : p2 ≠ b := ne_b (Same.non (s5.trans s6) B4.some) hp2
        have s7 : Same G6 (upd G6 p2 (.tup (xs.drop (j + 1)))) := same_upd hp2
        have e7 : upd G6 p2 (.tup (xs.drop (j + 1))) p2 = some (.tup (xs.drop (j + 1))) := upd_same
        generalize upd G6 p2 (.tup (xs.drop (j + 1))) = G7 at s7 e7
        have s47 : Same G4 G7 := (s5.trans s6).trans s7
        refine cat_by (b := b) (s7 _ _ hc) nc e7 n7 (Same.non s47 B4.some) ?_ fun c2 G8 s8 hc2 nc2 => ?_
        · rw [List.length_append, List.length_take, List.length_drop]
          exact Nat.le_trans (show min j xs.length + 1 + (xs.length - (j + 1)) ≤ 1000001 by omega) (by decide)
        have s48 : Same G4 G8 := s47.trans s8
        have k8 : Kept b G2 G8 := k4.trans (Kept.of_same s48)
        have hx8 := hx2.keep k8
        refine q _ (.tuple (ds.take j ++ [d'] ++ ds.drop (j + 1))) G8 (.tup nc2 hc2 (((hx8.take j).append (.cons (dv.same s48) .nil)).append (hx8.drop (j + 1)))) ?_ ((B4.same s48).mono hk') (k2.trans k8)
        exact (th_put th0 hej tv).mono (by omega) (Nat.le_refl _)
      -- a part of it
      refine ⟨fun σ G => G = G2 ∧ σ = σ1, ?_, ?_⟩
      · refine ⟨_, rfl, _, rfl, a, xs, ((j : Nat) : Int), xs[j], rfl, rfl, SqT.of ha2, atI_nat hxj, _, _, _, _, _, rfl, .ty "tuple", dz_ty hxe, kit_t e, _, rfl, ?_⟩
        refine ite2 (fun c => ?_) (fun _ => ⟨rfl, eσ.symm⟩)
        refine ⟨_, rfl, way, 4, rfl, rfl, _, rfl, ?_⟩
        refine ite2 (fun _ => ?_) (fun _ => ⟨rfl, eσ.symm⟩)
        refine ⟨_, rfl, _, rfl, ((j : Nat) : Int), rfl, a, xs, rfl, SqT.of ha2, cut_to_ne hj, fun p1 hp1 => ?_⟩
        rw [cut_to (Nat.le_of_lt hj)]
        have s3 : Same G2 (upd G2 p1 (.tup (xs.take j))) := same_upd hp1
        have e3 : upd G2 p1 (.tup (xs.take j)) p1 = some (.tup (xs.take j)) := upd_same
        have n3 : p1 ≠ b := ne_b B2.some hp1
        generalize upd G2 p1 (.tup (xs.take j)) = G3 at s3 e3
        refine ⟨_, rfl, _, rfl, _, rfl, a, xs, ((j : Nat) : Int), xs[j], rfl, rfl, SqT.of (s3 _ _ ha2), atI_nat hxj, ?_⟩
        refine ⟨b, g, k + 3, xs[j], e, D - 1, 1000000, rfl, B2.same s3, by omega, hxe.same s3, ⟨de2, by omega, by have := th.long; omega⟩, by omega, Nat.le_refl _, fun v d' G4 dv tv B4 k4 => ?_⟩
        exact tail G4 _ v d' p1 B4 (by omega) ((Kept.of_same s3).trans k4) (k4 _ _ e3 n3) n3 dv (tv.mono (by omega) (Nat.le_refl _))
      rintro σ G ⟨rfl, e1⟩
      rw [e1, eσ]
      -- the whole otherwise
      refine ⟨fun σ G' => G' = G ∧ σ = σ1, ?_, ?_⟩
      · refine ⟨_, rfl, rfl, _, rfl, ?_⟩
        refine ite2 (fun _ => ?_) (fun _ => ⟨rfl, eσ.symm⟩)
        have nb2 := B2.some
        have thL : Th (.tuple ds) (D + 9) (sz (.tuple ds) + 300) := th0.mono (by omega) (by omega)
        refine ⟨_, rfl, a, xs, rfl, .inr (SqT.of ha2), fun p1 h1 => ?_⟩
        have s1 : Same G (upd G p1 (.lst xs)) := same_upd h1
        have e1 : upd G p1 (.lst xs) p1 = some (.lst xs) := upd_same
        have n1 : p1 ≠ b := ne_b nb2 h1
        generalize upd G p1 (.lst xs) = G3 at s1 e1
        refine ⟨_, rfl, (by show 1 ≤ sizeLine; decide), fun p2 h2 => ?_⟩
        have s2 : Same G (upd G3 p2 (.tup [.int 0])) := s1.trans (same_upd h2)
        have s2' : Same G3 (upd G3 p2 (.tup [.int 0])) := same_upd h2
        have e2 : upd G3 p2 (.tup [.int 0]) p2 = some (.tup [.int 0]) := upd_same
        have n2 : p2 ≠ b := ne_b (Same.non s1 nb2) h2
        generalize upd G3 p2 (.tup [.int 0]) = G4 at s2 s2' e2
        refine cat_by (b := b) (s2 _ _ ha2) na e2 n2 (Same.non s2 nb2) ?_ fun c G5 s5 hc nc => ?_
        · exact Nat.le_trans (show xs.length + 1 ≤ 1000001 by omega) (by decide)
        have t5 : Same G G5 := s2.trans s5
        refine ⟨_, rfl, 1, rfl, -1, rfl, a, xs, rfl, SqT.of (t5 _ _ ha2), cut_last_ne l0, fun p3 h3 => ?_⟩
        rw [cut_last l0]
        have s6 : Same G5 (upd G5 p3 (.tup (xs.take (xs.length - 1)))) := same_upd h3
        have e6 : upd G5 p3 (.tup (xs.take (xs.length - 1))) p3 = some (.tup (xs.take (xs.length - 1))) := upd_same
        have n6 : p3 ≠ b := ne_b (Same.non t5 nb2) h3
        generalize upd G5 p3 (.tup (xs.take (xs.length - 1))) = G6 at s6 e6
        have t6 : Same G G6 := t5.trans s6
        refine ⟨_, rfl, a, xs, rfl, SqT.of (t6 _ _ ha2), fun p4 h4 => ?_⟩
        have s7 : Same G6 (upd G6 p4 (.tup xs.reverse)) := same_upd h4
        have e7 : upd G6 p4 (.tup xs.reverse) p4 = some (.tup xs.reverse) := upd_same
        have n7 : p4 ≠ b := ne_b (Same.non t6 nb2) h4
        generalize upd G6 p4 (.tup xs.reverse) = G7 at s7 e7
        have t7 : Same G G7 := t6.trans s7
        refine ⟨_, rfl, (by show 2 ≤ sizeLine; decide), fun p5 h5 => ?_⟩
        have s8 : Same G7 (upd G7 p5 (.tup [.str (Str.ofString "not"), .ref a])) := same_upd h5
        have e8 : upd G7 p5 (.tup [.str (Str.ofString "not"), .ref a]) p5 = some (.tup [.str (Str.ofString "not"), .ref a]) := upd_same
        have n8 : p5 ≠ b := ne_b (Same.non t7 nb2) h5
        generalize upd G7 p5 (.tup [.str (Str.ofString "not"), .ref a]) = G8 at s8 e8
        have t8 : Same G G8 := t7.trans s8
        refine ⟨_, rfl, (by show 2 ≤ sizeLine; decide), fun p6 h6 => ?_⟩
        have s9 : Same G8 (upd G8 p6 (.tup [.str (Str.ofString "not"), .ref a])) := same_upd h6
        have e9 : upd G8 p6 (.tup [.str (Str.ofString "not"), .ref a]) p6 = some (.tup [.str (Str.ofString "not"), .ref a]) := upd_same
        have n9 : p6 ≠ b := ne_b (Same.non t8 nb2) h6
        generalize upd G8 p6 (.tup [.str (Str.ofString "not"), .ref a]) = G9 at s9 e9
        have t9 : Same G G9 := t8.trans s9
        refine ⟨(by show 2 ≤ sizeLine; decide), fun p7 h7 => ?_⟩
        have s10 : Same G9 (upd G9 p7 (.tup [.str (Str.ofString "not"), .ref p6])) := same_upd h7
        have e10 : upd G9 p7 (.tup [.str (Str.ofString "not"), .ref p6]) p7 = some (.tup [.str (Str.ofString "not"), .ref p6]) := upd_same
        have n10 : p7 ≠ b := ne_b (Same.non t9 nb2) h7
        generalize upd G9 p7 (.tup [.str (Str.ofString "not"), .ref p6]) = G10 at s10 e10
        have t10 : Same G G10 := t9.trans s10
        refine ⟨(by show 6 ≤ sizeLine; decide), fun o ho => ?_⟩
        have s11 : Same G10 (upd G10 o (.lst [.ref p1, .ref c, .ref p3, .ref p4, .ref p5, .ref p7])) := same_upd ho
        have e11 : upd G10 o (.lst [.ref p1, .ref c, .ref p3, .ref p4, .ref p5, .ref p7]) o = some (.lst [.ref p1, .ref c, .ref p3, .ref p4, .ref p5, .ref p7]) := upd_same
        have n11 : o ≠ b := ne_b (Same.non t10 nb2) ho
        refine ⟨_, rfl, _, rfl, b, g, o, k + 3, _, rfl, B2.same (t10.trans s11), by omega, e11, n11, (by show 0 < 6; decide), (by show 6 ≤ 1000; decide), fun v G12 hv B12 k12 => ?_⟩
        have u10 := (Kept.of_same (b := b) s11).trans k12
        have u9 := (Kept.of_same (b := b) s10).trans u10
        have u8 := (Kept.of_same (b := b) s9).trans u9
        have u7 := (Kept.of_same (b := b) s8).trans u8
        have u6 := (Kept.of_same (b := b) s7).trans u7
        have u5 := (Kept.of_same (b := b) s6).trans u6
        have u3 := (Kept.of_same (b := b) (s2'.trans s5)).trans u5
        have kk : Kept b G G12 := (Kept.of_same s1).trans u3
        have hx12 := hx2.keep kk
        have me : DZ b G12 (.ref a) (.tuple ds) := .tup na (kk _ _ ha2 na) hx12
        have all : AllTh b G12 (D + 9) (sz (.tuple ds) + 300) [.ref p1, .ref c, .ref p3, .ref p4, .ref p5, .ref p7] := by
          refine .cons (.lst n1 (u3 _ _ e1 n1) hx12) (th_lst thL) (.cons (.tup nc (u5 _ _ hc nc) (hx12.append (.cons (.int 0) .nil))) ?_ (.cons (.tup n6 (u6 _ _ e6 n6) (hx12.take (xs.length - 1))) (th_part _ thL).1
            (.cons (.tup n7 (u7 _ _ e7 n7) hx12.rev) (th_rev thL) (.cons (.tup n8 (u8 _ _ e8 n8) (.cons (.str _) (.cons me .nil))) ?_ (.cons (.tup n10 (u10 _ _ e10 n10) (.cons (.str _) (.cons (.tup n9 (u9 _ _ e9 n9) (.cons (.str _) (.cons me .nil))) .nil))) ?_ .nil)))))
          · exact (th_join th0 ((th1 (D := 0) (Th.int (i := 0) (L := 64) (by decide +kernel) (Nat.le_refl 64))))).mono (by omega) (by omega)
          · exact (th2 (Th.str not_ok (Nat.le_refl 64)) th0).mono (by omega) (by omega)
          · exact (th2 (Th.str not_ok (Nat.le_refl 64)) (th2 (Th.str not_ok (Nat.le_refl 64)) th0)).mono (by omega) (by omega)
        obtain ⟨d', dv, tv⟩ := all v hv
        exact q v d' G12 dv tv (B12.mono (by omega)) (k2.trans kk)
      rintro σ G' ⟨rfl, e2⟩
      rw [e2, eσ]
      -- another word
      refine ⟨fun σ G => G = G' ∧ σ = σ1, ?_, ?_⟩
      · refine ⟨_, rfl, rfl, _, rfl, ?_⟩
        refine ite2 (fun _ => ?_) (fun _ => ⟨rfl, eσ.symm⟩)
        refine ⟨(by show 12 ≤ sizeLine; decide), fun o ho => ?_⟩
        have s3 : Same G' (upd G' o (.lst (LW.map V.str ++ [V.non, V.int 0]))) := same_upd ho
        have e3 : upd G' o (.lst (LW.map V.str ++ [V.non, V.int 0])) o = some (.lst (LW.map V.str ++ [V.non, V.int 0])) := upd_same
        have n3 : o ≠ b := ne_b B2.some ho
        have all : AllTh b (upd G' o (.lst (LW.map V.str ++ [V.non, V.int 0]))) 0 64 (LW.map V.str ++ [V.non, V.int 0]) := AllTh.strs LW_ok (Nat.le_refl 64) (.cons .non ⟨rfl, by decide, by decide⟩ (.cons (.int 0) (Th.int (by decide +kernel) (Nat.le_refl 64)) .nil))
        refine ⟨_, rfl, _, rfl, b, g, o, k + 3, (LW.map V.str ++ [V.non, V.int 0]), rfl, B2.same s3, by omega, e3, n3, by decide, by decide, fun v G4 hv B4 k4 => ?_⟩
        obtain ⟨d', dv, tv⟩ := all.same k4 v hv
        have kk : Kept b G' G4 := (Kept.of_same s3).trans k4
        refine ⟨(by show 1 ≤ sizeLine; decide), fun p1 h1 => ?_⟩
        have s5 : Same G4 (upd G4 p1 (.tup [v])) := same_upd h1
        have e5 : upd G4 p1 (.tup [v]) p1 = some (.tup [v]) := upd_same
        have n5 : p1 ≠ b := ne_b B4.some h1
        generalize upd G4 p1 (.tup [v]) = G5 at s5 e5
        have c1 : cutV xs (some 1) none = xs.drop 1 := cut_from (j := 0) l0
        refine ⟨_, rfl, 1, rfl, a, xs, rfl, SqT.of (s5 _ _ (kk _ _ ha2 na)), cut_from_ne (j := 0) l0, fun p2 h2 => ?_⟩
        rw [c1]
        have s6 : Same G4 (upd G5 p2 (.tup (xs.drop 1))) := s5.trans (same_upd h2)
        have s6' : Same G5 (upd G5 p2 (.tup (xs.drop 1))) := same_upd h2
        have e6 : upd G5 p2 (.tup (xs.drop 1)) p2 = some (.tup (xs.drop 1)) := upd_same
        have n6 : p2 ≠ b := ne_b (Same.non s5 B4.some) h2
        generalize upd G5 p2 (.tup (xs.drop 1)) = G6 at s6 s6' e6
        refine cat_by (b := b) (s6' _ _ e5) n5 e6 n6 (Same.non s6 B4.some) ?_ fun c2 G8 s8 hc2 nc2 => ?_
        · rw [List.length_drop]
          exact Nat.le_trans (show 1 + (xs.length - 1) ≤ 1000001 by omega) (by decide)
        have s48 : Same G4 G8 := s6.trans s8
        have k8 : Kept b G' G8 := kk.trans (Kept.of_same s48)
        have hx8 := hx2.keep k8
        refine q _ (.tuple ([d'] ++ ds.drop 1)) G8 (.tup nc2 hc2 (DZs.append (.cons (dv.same s48) .nil) (hx8.drop 1))) ?_ ((B4.same s48).mono (by omega)) (k2.trans k8)
        exact (th_join (th1 tv) (th_part 1 th0).2).mono (by omega) (by omega)
      rintro σ G ⟨rfl, e3⟩
      rw [e3, eσ]
      refine ⟨_, rfl, _, rfl, ((j : Nat) : Int), rfl, a, xs, rfl, SqT.of ha2, cut_to_ne hj, fun p1 hp1 => ?_⟩
      rw [cut_to (Nat.le_of_lt hj)]
      have s3 : Same G (upd G p1 (.tup (xs.take j))) := same_upd hp1
      have e3 : upd G p1 (.tup (xs.take j)) p1 = some (.tup (xs.take j)) := upd_same
      have n3 : p1 ≠ b := ne_b B2.some hp1
      generalize upd G p1 (.tup (xs.take j)) = G3 at s3 e3
      refine ⟨_, rfl, b, g, k + 3, rfl, B2.same s3, by omega, fun v d' G4 dv tv B4 k4 => ?_⟩
      exact tail G4 (k + 5) v d' p1 B4 (by omega) ((Kept.of_same s3).trans k4) (k4 _ _ e3 n3) n3 dv (tv.mono (by omega) (by omega))
end
end Nm

/-! The law's own def, run by the caller alone: nothing is being shown around it, and where the table of modules lies nothing is tracked. -/
namespace Nm
open PySem PySem.Spec PyProof.Rows L2
section
variable {P : Program} {w : World} {K : PySem.W.Frag} {mg mb mm : Str → Option Value}
/-- only the script is tracked, where it is none of the written objects -/
noncomputable def tr0 (K : PySem.W.Frag) (a : Addr) (oa : Obj) (xs : List V) : Hp := fun c => if c = a ∧ K.lookup a = none then some (.frz oa (.lst xs)) else none
theorem tr0_some {a c : Addr} {oa : Obj} {xs : List V} {u : HO} (e : tr0 K a oa xs c = some u) : c = a ∧ K.lookup a = none ∧ u = .frz oa (.lst xs) := by
  unfold tr0 at e
  split at e
  · rename_i y
    exact ⟨y.1, y.2, (Option.some.inj e).symm⟩
  · cases e
theorem tr0_ne {a c : Addr} {oa : Obj} {xs : List V} (n : c ≠ a) : tr0 K a oa xs c = none := if_neg fun y => n y.1
theorem tr0_lk {a c : Addr} {oa ob : Obj} {xs : List V} (n : K.lookup c = some ob) : tr0 K a oa xs c = none := by
  refine if_neg fun y => ?_
  rw [← y.1, n] at y
  cases y.2
theorem top_run {N : List Str} {p x qual : Str} {st : Stmt} {k : Nat} {f : Addr} {fd : FuncData} {base : Heap} {s : Shared} {H : Hp} {v : V} {u : Value} {Q : VK} (F : Fun K x qual st f fd) (S : FnScope N [p] (defScope st))
    (room : Room (k + 1) callerA) (e0 : Env0 P w K mg base callerA [] s H) (rel : RelV v u) (binds : BindsTo s fd ⟨[u], []⟩ [(p, u)])
    (body : ∀ cdv : Value, Room k (callerA.deeper (envOfC qual (defScope st) s.heap.objs.size f cdv)) →
      ∃ t, PSs (cxOf CX0 P w K mg base N qual (defScope st) f cdv callerA [] s H (fun _ _ _ => False)).nox (defBody st) t ∧ t { nx := fun _ H1 => Q .non H1, rt := Q } (L2.start N [v]) H) :
    codeAny (model P w) callerA (.call (.ref f) ⟨[u], []⟩) (CR CX0 [] P w H s Q fun _ _ _ => False) s := by
  obtain ⟨c1, c2, c3, c4, c5, c6, cdv, c7, c8, rfl, look, code⟩ := F.ex
  have kp : ∀ c o, base.get? c = some o → s.heap.get? c = some o := fun c o e => (e0.bs c o e).1
  have inK : K.In s.heap := e0.mod.kin.keeps kp
  have kinds : ∀ y ∈ ([p] : List Str).zip [u], (defScope st).names.lookup y.1 = some .local ∨
      ((defScope st).names.lookup y.1 = some .cell ∧ ((cellsFrom (s.heap.objs.size + 1) (defScope st).names []).lookup y.1).isSome = true) := by
    intro y hy
    have hy : y = (p, u) := by simpa using hy
    subst hy
    rcases S.par p (by simp) with z | z
    · exact Or.inl z
    · exact Or.inr ⟨z, PySem.W.cellsFrom_some _ _ _ (Or.inl z)⟩
  refine codeAny_call_function room.depth (inK _ _ look) rfl S.co S.gen rfl
    (PySem.W.codeRec_of inK code) (binds _ _ _ _ ?_)
  refine wpAny_newFunctionEnv_cells S.kind kinds
    fun env eenv s1 made => ?_
  subst eenv
  refine ⟨(e0.mod.nolimit.keeps kp).keeps made.toInCall.keep, codeAny_func ?_⟩
  obtain ⟨t, ht, q⟩ := body cdv (room.deeper _)
  have I1 := inv_start (CX := CX0) (cd := cdv) (E := fun _ _ _ => False) S room.hd e0 (vs := [v]) rfl (.cons rel .nil) made
  refine wpAny_mono (ht.nox.run [] s1 (L2.start N [v]) H _ I1 q)
    (fun end1 s2 h2 => ?_) (fun _ _ h2 => h2)
  cases end1 with
  | ret z =>
    obtain ⟨v1, σ1, H1, J, rz, qz⟩ := h2
    exact ⟨v1, H1, J.os, J.bare, J.base, J.hok, rz, qz⟩
  | next =>
    obtain ⟨σ1, H1, J, qz⟩ := h2
    exact ⟨.non, H1, J.os, J.bare, J.base, J.hok, rfl, qz⟩
  | brk => exact h2.elim fun _ y => y.elim fun _ y => y.2.elim
  | cont => exact h2.elim fun _ y => y.elim fun _ y => y.2.elim
theorem top_call {fa a : Addr} {s : Shared} {vs : List Value} {ns : List Int} (inK : K.In s.heap) (glob : s.heap.Ns mainGlobals mg) (blt : s.heap.Ns builtinsNs mb) (bbl : ∀ y : Str, y ≠ "__name__" → mb y = bootBuiltins y)
    (lim : s.heap.NoLimit) (mods : s.heap.Ns sysModules mm) (ge : s.gens = #[]) (script : s.heap.get? a = some { cls := .type "list", data := .seq vs.toArray }) (are : IntsAre vs ns) (few : ns.length ≤ sizeLine)
    (run : ∀ (base : Heap) (H : Hp), (∃ o, base.get? sysModules = some o) → Env0 P w K mg base callerA [] s H → SqL K H a (ns.map V.int) →
      codeAny (model P w) callerA (.call (.ref fa) ⟨[.ref a], []⟩) (CR CX0 [] P w H s (fun v _ => v = .bl true) fun _ _ _ => False) s) :
    codeAny (model P w) callerA (.call (.ref fa) ⟨[.ref a], []⟩) (fun r s2 => r = .ok (.ret (.bool true)) ∧ OldK s.heap s2.heap ∧ s2.os = s.os ∧ AllBare s2.gens) s := by
  have rel := vals_ints are
  obtain ⟨oa, eoa⟩ : ∃ o : Obj, o = { cls := .type "list", data := .seq vs.toArray } := ⟨_, rfl⟩
  obtain ⟨H, eH⟩ : ∃ H : Hp, H = tr0 K a oa (ns.map V.int) := ⟨_, rfl⟩
  rw [← eoa] at script
  -- what is a dict is not the script
  have dic : ∀ {c : Addr} {m : Str → Option Value}, s.heap.Ns c m → (hidT s.heap H).Ns c m := by
    rintro c m ⟨o, es, ep, e1, e2, e3⟩
    refine ⟨o, es, ep, hidT_get e1 ?_, e2, e3⟩
    rw [eH]
    refine tr0_ne fun z => ?_
    rw [z, script] at e1
    cases e1
    rw [eoa] at e2
    cases e2
  have hok : HOk P w H s.heap := by
    intro c u e
    rw [eH] at e
    obtain ⟨rfl, _, rfl⟩ := tr0_some e
    have z : (ns.map V.int).length ≤ sizeLine := by rw [List.length_map]; exact few
    exact ⟨script, z, vs, 0, rel, script.trans (congrArg some eoa)⟩
  have sq : SqL K H a (ns.map V.int) := by
    cases hk : K.lookup a with
    | none => exact .inl (.inr ⟨oa, by rw [eH]; exact if_pos ⟨rfl, hk⟩⟩)
    | some o =>
      have e := inK a o hk
      rw [script] at e
      cases e
      have z : vs.toArray.size ≤ sizeLine := by
        have z1 : vs.length = ns.length := are.length
        rw [List.size_toArray]
        omega
      subst eoa
      exact Or.inr ⟨_, vs.toArray, _, hk, rfl, rfl, rfl, z, by simpa using rel⟩
  have e0 : Env0 P w K mg (hidT s.heap H) callerA [] s H := by
    refine ⟨rfl, ⟨fun c o e => hidT_get (inK c o e) (by rw [eH]; exact tr0_lk e), dic glob, ⟨mb, dic blt, bbl⟩, ?_⟩, fun c o e => of_hidT e, Nat.le_of_eq (hidT_size _ _), trivial,
      fun c hc => ?_, hok, .of_eq ge⟩
    · obtain ⟨mc, y1, y2⟩ := lim
      exact ⟨mc, dic y1, y2⟩
    · exact absurd (show c ∈ ([] : List Addr) from hc) (by simp)
  have sys : ∃ o, (hidT s.heap H).get? sysModules = some o := by
    obtain ⟨o, _, _, e, _⟩ := dic mods
    exact ⟨o, e⟩
  refine codeAny_mono (run _ H sys e0 sq) fun r s2 h => ?_
  match r, h with
  | .error e, h => exact (show False from h).elim
  | .ok .next, h => exact (show False from h).elim
  | .ok .brk, h => exact (show False from h).elim
  | .ok .cont, h => exact (show False from h).elim
  | .ok (.ret u), ⟨v, H2, os, bare, un, hok2, rv, q⟩ =>
    have q : v = .bl true := q
    subst q
    obtain rfl : u = Value.bool true := rv
    refine ⟨rfl, OldK.of_keep fun c o e => ?_, os, bare⟩
    cases y : H c with
    | none => exact un.keep c o e y (fun z => absurd (show c ∈ ([] : List Addr) from z) (by simp)) (by simp)
    | some u =>
      have y2 := y
      rw [eH] at y2
      obtain ⟨rfl, _, rfl⟩ := tr0_some y2
      obtain ⟨e1, _⟩ := hok2 c _ (un.frzs c oa _ y)
      rw [script] at e
      cases e
      exact e1
end
end Nm

/-! law. -/
namespace Nm
open PySem PySem.Spec PyProof.Rows L2
abbrev sLaw : Stmt := topS 36
theorem size_take {V' : Type} {xs : List V'} {i : Nat} : (xs.take i).length ≤ xs.length := by rw [List.length_take]; omega
structure LawT (P : Program) (w : World) (K : PySem.W.Frag) (mg : Str → Option Value) (base : Heap) extends DrwT P w K mg base where
  fH : Addr
  fdH : FuncData
  FH : FnOk P w K mg base CX0 1 fH fdH ["script"] (spHand K)
  bH : Binds K fdH ["script"] []
  gH : mg "_law_hand" = some (.ref fH)
  kH : PySem.W.keepIn K (.ref fH) = true
  fS : Addr
  fdS : FuncData
  FS : FnOk P w K mg base CX0 13 fS fdS aSay (spSay 10)
  bS : Binds K fdS aSay []
  gS : mg "_law_saying" = some (.ref fS)
  kS : PySem.W.keepIn K (.ref fS) = true
  fB : Addr
  fdB : FuncData
  FB : FnOk P w K mg base CX0 43 fB fdB aBent (spBent 40)
  bB : Binds K fdB aBent []
  gB : mg "_law_bent" = some (.ref fB)
  kB : PySem.W.keepIn K (.ref fB) = true
  fF : Addr
  fdF : FuncData
  FF : FnOk P w K mg base CX0 1 fF fdF ["given", "due"] spFlag
  bF : Binds K fdF ["given", "due"] []
  gF : mg "_law_flag" = some (.ref fF)
  kF : PySem.W.keepIn K (.ref fF) = true
  fY : Addr
  fdY : FuncData
  FY : FnOk P w K mg base CX0 14 fY fdY ["many", "letters", "thing"] (spSaying K)
  bY : Binds K fdY ["many", "letters", "thing"] []
  gY : mg "is_saying" = some (.ref fY)
  kY : PySem.W.keepIn K (.ref fY) = true
  fO : Addr
  fdO : FuncData
  FO : FnOk P w K mg base CX0 13 fO fdO ["many", "letters", "thing"] spIsOne
  bO : Binds K fdO ["many", "letters", "thing"] []
  gO : mg "_law_is_one" = some (.ref fO)
  kO : PySem.W.keepIn K (.ref fO) = true
abbrev nLaw : List Str := ["script", "hand", "turn", "many", "letters", "thing", "more", "change", "kept"]
theorem scLaw : FnScope nLaw ["script"] (defScope sLaw) := ⟨rfl, rfl, rfl, by decide +kernel, rfl, by decide +kernel, by decide +kernel⟩
/-- the letters that are handed in -/
structure LetAt (H : Hp) (b t : Addr) (L : List Str) : Prop where
  at_ : H t = some (.tup (L.map V.str))
  ne : t ≠ b
  ok : LtOk L
  nd : L.Nodup
  few : L.length ≤ 3
theorem LetAt.keep {H H' : Hp} {b t : Addr} {L : List Str} (h : LetAt H b t L) (k : Kept b H H') : LetAt H' b t L := ⟨k _ _ h.at_ h.ne, h.ne, h.ok, h.nd, h.few⟩
def L0 : List Str := []
def L1 : List Str := (["x"] : List String).map Str.ofString
def L2' : List Str := (["x", "y"] : List String).map Str.ofString
def L3 : List Str := (["abcdefgh", "z", "x"] : List String).map Str.ofString
theorem ltok {L : List Str} (h : ∀ x ∈ L, nmB x = true ∧ x ∈ strs0) : LtOk L := ⟨fun x hx => (h x hx).1, fun x hx => (h x hx).2⟩
theorem l1ok : (∀ x ∈ L1, nmB x = true ∧ x ∈ strs0) ∧ L1.Nodup := by decide +kernel
theorem l2ok : (∀ x ∈ L2', nmB x = true ∧ x ∈ strs0) ∧ L2'.Nodup := by decide +kernel
theorem l3ok : (∀ x ∈ L3, nmB x = true ∧ x ∈ strs0) ∧ L3.Nodup := by decide +kernel
theorem x_ok : nmB (Str.ofString "x") = true ∧ Str.ofString "x" ∈ strs0 := by decide +kernel
theorem same_ok : Str.ofString "same" ∈ strs0 := by decide +kernel
theorem some_ok : Str.ofString "some" ∈ strs0 := by decide +kernel
theorem and_ok : Str.ofString "and" ∈ strs0 := by decide +kernel
section
variable {P : Program} {w : World} {K : PySem.W.Frag} {mg : Str → Option Value} {base : Heap}
/-- what stands in the names, the thing at x -/
def Std (b a t : Addr) (many : Int) (x : V) (σ : L2.St) : Prop := ∃ y2 y6 y7 y8 : Option V, σ = [some (.ref a), some (.ref b), y2, some (.int many), some (.ref t), some x, y6, y7, y8]
theorem law_body {f : Addr} {s : Shared} {H : Hp} {a : Addr} {ns : List Int} (T : WdT mg) (U : LawT P w K mg base) (hsys : ∃ o, base.get? sysModules = some o) (hS : SqL K H a (ns.map V.int)) (hlen : ns.length ≤ 63) (cdv : Value)
    (hr : Room 43 (callerA.deeper (envOfC "law" (defScope sLaw) s.heap.objs.size f cdv))) :
    ∃ t, PSs (cxOf CX0 P w K mg base nLaw "law" (defScope sLaw) f cdv callerA [] s H (fun _ _ _ => False)).nox (defBody sLaw) t ∧ t { nx := fun _ H1 => (fun v (_ : Hp) => v = V.bl true) .non H1, rt := fun v _ => v = .bl true } (L2.start nLaw [.ref a]) H := by
  have hr1 : Room 1 _ := hr.mono (by decide)
  have hr2 : Room 2 _ := hr.mono (by decide)
  have hr13 : Room 13 _ := hr.mono (by decide)
  have hr14 : Room 14 _ := hr.mono (by decide)
  have rp : CallR (cxOf CX0 P w K mg base nLaw "law" (defScope sLaw) f cdv callerA [] s H (fun _ _ _ => False)).nox (.builtin "repr") rRepr := call_repr_data rfl hsys hr.units
  refine ⟨_, pss_cut (ps_set (i := 1) scLaw.nd rfl (.inl rfl) (pe_call U.FH hr1 (by rfl) U.gH U.kH U.bH .nil pass0 (pa_cons (pv 0) pa_nil)))
    (pss_cons (ps_for PassesOwn.never rfl (pi_range1 rfl T.range (pa_cons pe_int pa_nil)) (pg_name (i := 2) scLaw.nd rfl (Or.inl rfl))
      (pss_cut (ps_set (i := 3) scLaw.nd rfl (.inl rfl) (pe_call U.FD hr1 (by rfl) U.gD U.kD U.bD .nil pass0 (pa_cons (pv 1) (pa_cons pe_int pa_nil))))
      (pss_cut (ps_set (i := 4) scLaw.nd rfl (.inl rfl) (pe_call U.FA hr2 (by rfl) U.gA U.kA U.bA .nil pass0 (pa_cons (pv 1) (pa_cons (pe_lst (pa_cons (pe_tup pa_nil) (pa_cons (pe_tup (pa_cons pe_str pa_nil)) (pa_cons (pe_tup (pa_cons pe_str (pa_cons pe_str pa_nil)))
          (pa_cons (pe_tup (pa_cons pe_str (pa_cons pe_str (pa_cons pe_str pa_nil)))) pa_nil))))) pa_nil))))
      (pss_cut (ps_set (i := 5) scLaw.nd rfl (.inl rfl) (pe_call U.FS hr13 (by rfl) U.gS U.kS U.bS .nil pass0 (pa_cons (pv 1) (pa_cons (pv 3)
          (pa_cons (pe_op op_cat (pe_callTy call_list_of (by rfl) T.list (by decide +kernel) (pa_cons (pv 4) pa_nil)) (pe_op op_rep (pe_lst (pa_cons pe_str pa_nil)) (pe_callTy call_int1 (by rfl) T.int (by decide +kernel) (pa_cons (pe_cmpR op_eq (pe_callB call_len_seq (by rfl) T.len PySem.boot_len (pa_cons (pv 4) pa_nil)) pe_int (nomark _)) pa_nil))))
          (pa_cons pe_int (pa_cons (pe_call U.FD hr1 (by rfl) U.gD U.kD U.bD .nil pass0 (pa_cons (pv 1) (pa_cons pe_int pa_nil))) pa_nil)))))))
      (pss_cut (ps_if (PW.pt (pw_and (pt_cmpR op_eq (pe_callB call_len_seq (by rfl) T.len PySem.boot_len (pa_cons (pv 4) pa_nil)) pe_int (nomark _)) (pw_and1 (pt_cmpR op_gt (pe_call U.FD hr1 (by rfl) U.gD U.kD U.bD .nil pass0 (pa_cons (pv 1) (pa_cons pe_int pa_nil))) pe_int (nomark _)))))
          (pss_one (ps_set (i := 5) scLaw.nd rfl (.inl rfl) (pe_tup (pa_cons (pe_call U.FA hr2 (by rfl) U.gA U.kA U.bA .nil pass0 (pa_cons (pv 1) (pa_cons (pe_lst (pa_cons pe_str (pa_cons pe_str pa_nil))) pa_nil))) (pa_cons pe_str (pa_cons (pv 5) pa_nil)))))) pss_nil)
      (pss_cut (ps_if (pt_cmpR op_eq (pe_call U.FD hr1 (by rfl) U.gD U.kD U.bD .nil pass0 (pa_cons (pv 1) (pa_cons pe_int pa_nil))) pe_int (nomark _))
          (pss_one (ps_for PassesOwn.never rfl (pi_range1 rfl T.range (pa_cons (pe_op op_add pe_int (pe_call U.FD hr1 (by rfl) U.gD U.kD U.bD .nil pass0 (pa_cons (pv 1) (pa_cons pe_int pa_nil)))) pa_nil)) (pg_name (i := 6) scLaw.nd rfl (Or.inl rfl))
            (pss_one (ps_set (i := 5) scLaw.nd rfl (.inl rfl) (pe_call U.FA hr2 (by rfl) U.gA U.kA U.bA .nil pass0 (pa_cons (pv 1) (pa_cons (pe_lst (pa_cons (pe_tup (pa_cons pe_str (pa_cons (pv 5) pa_nil))) (pa_cons (pe_tup (pa_cons pe_str (pa_cons pe_str (pa_cons (pv 5) pa_nil))))
              (pa_cons (pe_tup (pa_cons pe_str (pa_cons (pv 5) (pa_cons (pe_tup (pa_cons pe_str (pa_cons pe_str (pa_cons pe_str pa_nil)))) pa_nil)))) pa_nil)))) pa_nil))))))) pss_nil)
      (pss_cut (ps_for PassesOwn.never rfl (pi_range1 rfl T.range (pa_cons (pe_call U.FD hr1 (by rfl) U.gD U.kD U.bD .nil pass0 (pa_cons (pv 1) (pa_cons pe_int pa_nil))) pa_nil)) (pg_name (i := 7) scLaw.nd rfl (Or.inl rfl))
            (pss_one (ps_set (i := 5) scLaw.nd rfl (.inl rfl) (pe_call U.FB hr (by rfl) U.gB U.kB U.bB .nil pass0 (pa_cons (pv 1) (pa_cons (pv 5) pa_nil))))))
      (pss_cons (ps_set (i := 8) scLaw.nd rfl (.inl rfl) (pe_callB rp (by rfl) T.repr (by decide +kernel) (pa_cons (pv 5) pa_nil)))
      (pss_one (ps_if (PW.pt (pw_or (pt_not (pt_val (pe_call U.FF hr1 (by rfl) U.gF U.kF U.bF .nil pass0 (pa_cons (pe_call U.FY hr14 (by rfl) U.gY U.kY U.bY .nil pass0 (pa_cons (pv 3) (pa_cons (pv 4) (pa_cons (pv 5) pa_nil))))
            (pa_cons (pe_call U.FO hr13 (by rfl) U.gO U.kO U.bO .nil pass0 (pa_cons (pv 3) (pa_cons (pv 4) (pa_cons (pv 5) pa_nil)))) pa_nil)))))
          (pw_or1 (pt_cmpR op_ne (pe_callB rp (by rfl) T.repr (by decide +kernel) (pa_cons (pv 5) pa_nil)) (pv 8) (nomark _)))))
          (pss_one (ps_ret pe_bl)) pss_nil))))))))))
    (pss_one (ps_ret pe_bl))), ?_⟩
  refine ⟨fun σ G => ∃ (b g : Addr), σ = [some (.ref a), some (.ref b), none, none, none, none, none, none, none] ∧ HandAt G b g 1, ?_, ?_⟩
  · exact ⟨_, rfl, a, ns, rfl, hS, hlen, fun b g G sG nb B => ⟨b, g, rfl, B⟩⟩
  rintro σ G ⟨b, g, rfl, B⟩
  refine ⟨12, rfl, by decide, by decide, for_range (n := 12) (fun i σ G => HandAt G b g (1 + 10000 * i) ∧ ∃ y2 y3 y4 y5 y6 y7 y8 : Option V, σ = [some (.ref a), some (.ref b), y2, y3, y4, y5, y6, y7, y8]) ⟨B, _, _, _, _, _, _, _, rfl⟩ ?_ ?_⟩
  · clear B
    rintro turn σ G hturn ⟨B, y2, y3, y4, y5, y6, y7, y8, rfl⟩
    obtain ⟨k, ek⟩ : ∃ k, k = 1 + 10000 * turn := ⟨_, rfl⟩
    have hk : k ≤ 200000 := by omega
    rw [← ek] at B
    have next : k + 10000 = 1 + 10000 * (turn + 1) := by omega
    -- many
    refine ⟨fun σ G => ∃ (many : Int) (y2 y4 y5 y6 y7 y8 : Option V), σ = [some (.ref a), some (.ref b), y2, some (.int many), y4, y5, y6, y7, y8] ∧ 0 ≤ many ∧ many ≤ 5 ∧ HandAt G b g (k + 1), ?_, ?_⟩
    · exact ⟨_, rfl, b, g, k, 6, rfl, B, by omega, by decide, by decide, fun m G2 m0 m6 B2 k2 => ⟨m, _, _, _, _, _, _, rfl, m0, by omega, B2⟩⟩
    clear B
    rintro σ G ⟨many, y2, y4, y5, y6, y7, y8, rfl, m0, m5, B⟩
    -- letters
    refine ⟨fun σ G => ∃ (t : Addr) (L : List Str) (y2 y5 y6 y7 y8 : Option V), σ = [some (.ref a), some (.ref b), y2, some (.int many), some (.ref t), y5, y6, y7, y8] ∧ LetAt G b t L ∧ HandAt G b g (k + 2), ?_, ?_⟩
    · refine ⟨_, rfl, Nat.zero_le _, fun p1 h1 => ⟨(by show 1 ≤ sizeLine; decide), fun p2 h2 => ⟨(by show 2 ≤ sizeLine; decide), fun p3 h3 => ⟨(by show 3 ≤ sizeLine; decide), fun p4 h4 => ⟨(by show 4 ≤ sizeLine; decide), fun o ho => ?_⟩⟩⟩⟩⟩
      have nb := B.some
      have s1 : Same G (upd G p1 (.tup (L0.map V.str))) := same_upd h1
      have e1 : upd G p1 (.tup (L0.map V.str)) p1 = some (.tup (L0.map V.str)) := upd_same
      have n1 : p1 ≠ b := ne_b nb h1
      have s2 : Same (upd G p1 (.tup (L0.map V.str))) (upd (upd G p1 (.tup (L0.map V.str))) p2 (.tup (L1.map V.str))) := same_upd h2
      have e2 : upd (upd G p1 (.tup (L0.map V.str))) p2 (.tup (L1.map V.str)) p2 = some (.tup (L1.map V.str)) := upd_same
      have n2 : p2 ≠ b := ne_b (Same.non s1 nb) h2
      have s3 : Same (upd (upd G p1 (.tup (L0.map V.str))) p2 (.tup (L1.map V.str))) (upd (upd (upd G p1 (.tup (L0.map V.str))) p2 (.tup (L1.map V.str))) p3 (.tup (L2'.map V.str))) := same_upd h3
      have e3 : upd (upd (upd G p1 (.tup (L0.map V.str))) p2 (.tup (L1.map V.str))) p3 (.tup (L2'.map V.str)) p3 = some (.tup (L2'.map V.str)) := upd_same
      have n3 : p3 ≠ b := ne_b (Same.non (s1.trans s2) nb) h3
      have s4 : Same (upd (upd (upd G p1 (.tup (L0.map V.str))) p2 (.tup (L1.map V.str))) p3 (.tup (L2'.map V.str))) (upd (upd (upd (upd G p1 (.tup (L0.map V.str))) p2 (.tup (L1.map V.str))) p3 (.tup (L2'.map V.str))) p4 (.tup (L3.map V.str))) := same_upd h4
      have e4 : upd (upd (upd (upd G p1 (.tup (L0.map V.str))) p2 (.tup (L1.map V.str))) p3 (.tup (L2'.map V.str))) p4 (.tup (L3.map V.str)) p4 = some (.tup (L3.map V.str)) := upd_same
      have n4 : p4 ≠ b := ne_b (Same.non ((s1.trans s2).trans s3) nb) h4
      have s5 : Same (upd (upd (upd (upd G p1 (.tup (L0.map V.str))) p2 (.tup (L1.map V.str))) p3 (.tup (L2'.map V.str))) p4 (.tup (L3.map V.str))) (upd (upd (upd (upd (upd G p1 (.tup (L0.map V.str))) p2 (.tup (L1.map V.str))) p3 (.tup (L2'.map V.str))) p4 (.tup (L3.map V.str))) o (.lst [.ref p1, .ref p2, .ref p3, .ref p4])) := same_upd ho
      have eo : upd (upd (upd (upd (upd G p1 (.tup (L0.map V.str))) p2 (.tup (L1.map V.str))) p3 (.tup (L2'.map V.str))) p4 (.tup (L3.map V.str))) o (.lst [V.ref p1, V.ref p2, V.ref p3, V.ref p4]) o = some (.lst [.ref p1, .ref p2, .ref p3, .ref p4]) := upd_same
      have no : o ≠ b := ne_b (Same.non (((s1.trans s2).trans s3).trans s4) nb) ho
      have all : ∀ v ∈ [V.ref p1, V.ref p2, V.ref p3, V.ref p4], ∃ (t : Addr) (L : List Str), v = .ref t ∧ LetAt (upd (upd (upd (upd (upd G p1 (.tup (L0.map V.str))) p2 (.tup (L1.map V.str))) p3 (.tup (L2'.map V.str))) p4 (.tup (L3.map V.str))) o (.lst [.ref p1, .ref p2, .ref p3, .ref p4])) b t L := by
        intro v hv
        simp only [List.mem_cons, List.not_mem_nil, or_false] at hv
        rcases hv with rfl | rfl | rfl | rfl
        · exact ⟨p1, L0, rfl, (((s2.trans s3).trans s4).trans s5) _ _ e1, n1, ltok (fun _ h => nomatch h), List.nodup_nil, by decide⟩
        · exact ⟨p2, L1, rfl, ((s3.trans s4).trans s5) _ _ e2, n2, ltok l1ok.1, l1ok.2, by decide⟩
        · exact ⟨p3, L2', rfl, (s4.trans s5) _ _ e3, n3, ltok l2ok.1, l2ok.2, by decide⟩
        · exact ⟨p4, L3, rfl, s5 _ _ e4, n4, ltok l3ok.1, l3ok.2, by decide⟩
      refine ⟨b, g, o, k + 1, _, rfl, B.same ((((s1.trans s2).trans s3).trans s4).trans s5), by omega, eo, no, (by show 0 < 4; decide), (by show 4 ≤ 1000; decide), fun v G2 hv B2 k2 => ?_⟩
      obtain ⟨t, L, rfl, lt⟩ := all v hv
      exact ⟨t, L, _, _, _, _, _, rfl, lt.keep k2, B2⟩
    clear B
    rintro σ G ⟨t, L, y2, y5, y6, y7, y8, rfl, lt, B⟩
    -- the thing
    refine ⟨fun σ G => ∃ (x : V) (d : PyData), Std b a t many x σ ∧ LetAt G b t L ∧ HandAt G b g (k + 5000) ∧ DZ b G x d ∧ Th d 9 204700, ?_, ?_⟩
    · obtain ⟨L', eL', lt', ne', few'⟩ : ∃ L' : List Str, (L.map V.str ++ (List.replicate (if decide (V.int (((L.map V.str).length : Nat) : Int) = V.int 0) = true then (1 : Int) else 0).toNat [V.str (Str.ofString "x")]).flatten) = L'.map V.str ∧ LtOk L' ∧ L' ≠ [] ∧ L'.length ≤ 3 := by
        by_cases c : L = []
        · subst c
          exact ⟨L1, rfl, ltok l1ok.1, by decide, by decide⟩
        · refine ⟨L, ?_, lt.ok, c, lt.few⟩
          have e : decide (V.int (((L.map V.str).length : Nat) : Int) = V.int 0) = false := decide_eq_false fun z => by
            injection z with z
            rw [List.length_map] at z
            exact c (List.length_eq_zero_iff.mp (by omega))
          rw [e]
          simp
      refine ⟨_, rfl, _, rfl, _, rfl, t, _, rfl, .inr (SqT.of lt.at_), fun l hl => ?_⟩
      have s1 : Same G (upd G l (.lst (L.map V.str))) := same_upd hl
      have e1 : upd G l (.lst (L.map V.str)) l = some (.lst (L.map V.str)) := upd_same
      generalize upd G l (.lst (L.map V.str)) = G1 at s1 e1
      refine ⟨(by show 1 ≤ sizeLine; decide), fun l2 hl2 => ?_⟩
      have s2 : Same G1 (upd G1 l2 (.lst [.str (Str.ofString "x")])) := same_upd hl2
      have e2 : upd G1 l2 (.lst [.str (Str.ofString "x")]) l2 = some (.lst [.str (Str.ofString "x")]) := upd_same
      generalize upd G1 l2 (.lst [V.str (Str.ofString "x")]) = G2 at s2 e2
      refine ⟨_, rfl, t, _, rfl, .inr (SqT.of ((s1.trans s2) _ _ lt.at_)), rfl, .inr ⟨_, rfl, ?_⟩⟩
      refine ⟨l2, _, _, rfl, rfl, e2, ?_, ?_, ?_, fun l3 hl3 => ?_⟩
      · split <;> decide
      · split <;> decide
      · split <;> decide
      have s3 := s2.trans (same_upd (o := .lst (List.replicate (if decide (V.int (((L.map V.str).length : Nat) : Int) = V.int 0) = true then (1 : Int) else 0).toNat [V.str (Str.ofString "x")]).flatten) hl3)
      have e3 : upd G2 l3 (.lst (List.replicate (if decide (V.int (((L.map V.str).length : Nat) : Int) = V.int 0) = true then (1 : Int) else 0).toNat [V.str (Str.ofString "x")]).flatten) l3 = _ := upd_same
      refine ⟨l, l3, _, _, rfl, rfl, s3 _ _ e1, e3, ?_, fun l4 hl4 => ?_⟩
      · rw [← List.length_append, eL', List.length_map]
        exact Nat.le_trans few' (by decide)
      have s4 := (s1.trans s3).trans (same_upd (o := .lst (L.map V.str ++ (List.replicate (if decide (V.int (((L.map V.str).length : Nat) : Int) = V.int 0) = true then (1 : Int) else 0).toNat [V.str (Str.ofString "x")]).flatten)) hl4)
      have e4 : upd (upd G2 l3 (.lst (List.replicate (if decide (V.int (((L.map V.str).length : Nat) : Int) = V.int 0) = true then (1 : Int) else 0).toNat [V.str (Str.ofString "x")]).flatten)) l4 (.lst (L.map V.str ++ (List.replicate (if decide (V.int (((L.map V.str).length : Nat) : Int) = V.int 0) = true then (1 : Int) else 0).toNat [V.str (Str.ofString "x")]).flatten)) l4 = some (.lst (L'.map V.str)) := by rw [upd_same, eL']
      have n4 : l4 ≠ b := ne_b (Same.non (s1.trans s3) B.some) hl4
      refine ⟨_, rfl, b, g, k + 2, 6, rfl, B.same s4, by omega, by decide, by decide, fun bd G5 b0 b6 B5 k5 => ?_⟩
      refine ⟨b, g, l4, k + 3, many, bd, 9, L', rfl, B5, by omega, m0, m5, k5 _ _ e4 n4, n4, lt', ne', by omega, by decide, by decide, by decide, b0, by omega, fun v d G6 dv tv B6 k6 => ?_⟩
      have kk : Kept b G G6 := ((Kept.of_same s4).trans k5).trans k6
      exact ⟨v, d, ⟨_, _, _, _, rfl⟩, lt.keep kk, B6.mono (by omega), dv, tv.mono (by decide) (by decide)⟩
    clear lt B
    rintro σ G ⟨x, d, ⟨y2, y6, y7, y8, rfl⟩, lt, B, dx, th⟩
    -- closed
    refine ⟨fun σ G => ∃ (x : V) (d : PyData), Std b a t many x σ ∧ LetAt G b t L ∧ HandAt G b g (k + 5002) ∧ DZ b G x d ∧ Th d 10 204900, ?_, ?_⟩
    · have stay : ∀ G2, HandAt G2 b g (k + 5001) → Kept b G G2 → ∃ (x' : V) (d : PyData), Std b a t many x' [some (.ref a), some (.ref b), y2, some (.int many), some (.ref t), some x, y6, y7, y8] ∧ LetAt G2 b t L ∧ HandAt G2 b g (k + 5002) ∧ DZ b G2 x' d ∧ Th d 10 204900 := fun G2 B2 k2 =>
        ⟨x, d, ⟨_, _, _, _, rfl⟩, lt.keep k2, B2.mono (by omega), dx.keep k2, th.mono (by decide) (by decide)⟩
      refine ⟨_, rfl, t, _, rfl, .inr (SqT.of lt.at_), rfl, _, rfl, ?_⟩
      refine ite2 (fun _ => ?_) (fun _ => stay G (B.mono (by omega)) (Kept.refl G))
      refine ⟨_, rfl, b, g, k + 5000, 3, rfl, B, by omega, by decide, by decide, fun r G2 _ _ B2 k2 => ⟨r, 0, rfl, rfl, _, rfl, ?_⟩⟩
      refine ite2 (fun _ => ?_) (fun _ => stay G2 B2 k2)
      refine ⟨_, rfl, (by show 2 ≤ sizeLine; decide), fun o ho => ?_⟩
      have s3 : Same G2 (upd G2 o (.lst (LA.map V.str))) := same_upd ho
      have e3 : upd G2 o (.lst (LA.map V.str)) o = some (.lst (LA.map V.str)) := upd_same
      refine ⟨b, g, o, k + 5001, (LA.map V.str), rfl, B2.same s3, by omega, e3, ne_b B2.some ho, by decide, by decide, fun v G4 hv B4 k4 => ?_⟩
      obtain ⟨y, hy, rfl⟩ := mem_strs hv
      refine ⟨_, rfl, (by show 3 ≤ sizeLine; decide), fun p hp => ?_⟩
      have s5 : Same G4 (upd G4 p (.tup [.str y, .str (Str.ofString "x"), x])) := same_upd hp
      have kk : Kept b G (upd G4 p (.tup [.str y, .str (Str.ofString "x"), x])) := ((k2.trans (Kept.of_same s3)).trans k4).trans (Kept.of_same s5)
      refine ⟨.ref p, .tuple [.str y, .str (Str.ofString "x"), d], ⟨_, _, _, _, rfl⟩, lt.keep kk, (B4.same s5).mono (by omega), .tup (ne_b B4.some hp) upd_same (.cons (.str y) (.cons (.str _) (.cons (dx.keep kk) .nil))), ?_⟩
      exact (th3 (Th.str (LA_ok y hy) (Nat.le_refl 64)) (Th.str x_ok.2 (Nat.le_refl 64)) th).mono (by decide) (by decide)
    clear lt B dx th
    rintro σ G ⟨x, d, ⟨y2, y6, y7, y8, rfl⟩, lt, B, dx, th⟩
    -- wrapped
    refine ⟨fun σ G => ∃ (x : V) (d : PyData), Std b a t many x σ ∧ LetAt G b t L ∧ HandAt G b g (k + 5100) ∧ DZ b G x d ∧ Th d 16 208000, ?_, ?_⟩
    · refine ⟨_, rfl, b, g, k + 5002, 6, rfl, B, by omega, by decide, by decide, fun r G2 _ _ B2 k2 => ⟨rfl, _, rfl, ?_⟩⟩
      refine ite2 (fun _ => ?_) (fun _ => ⟨x, d, ⟨_, _, _, _, rfl⟩, lt.keep k2, B2.mono (by omega), dx.keep k2, th.mono (by decide) (by decide)⟩)
      refine ⟨_, rfl, b, g, k + 5003, 6, rfl, B2, by omega, by decide, by decide, fun r2 G3 r20 r26 B3 k3 => ⟨1, r2, rfl, rfl, ?_⟩⟩
      have k23 := k2.trans k3
      refine ⟨1 + r2, rfl, by omega, by omega, for_range (n := (1 + r2).toNat) (fun i σ G => ∃ (x : V) (d : PyData), Std b a t many x σ ∧ LetAt G b t L ∧ HandAt G b g (k + 5004 + i) ∧ DZ b G x d ∧ Th d (10 + i) (204900 + 300 * i))
        ⟨x, d, ⟨_, _, _, _, rfl⟩, lt.keep k23, B3.mono (by omega), dx.keep k23, th⟩ ?_ ?_⟩
      · clear lt B dx th B2 B3 k2 k3 k23
        rintro i σ G hi ⟨x, d, ⟨y2, y6, y7, y8, rfl⟩, lt, B, dx, th⟩
        have i6 : i ≤ 6 := by omega
        have nb := B.some
        refine ⟨_, rfl, _, rfl, (by show 2 ≤ sizeLine; decide), fun p1 h1 => ?_⟩
        have s1 : Same G (upd G p1 (.tup [.str (Str.ofString "not"), x])) := same_upd h1
        have e1 : upd G p1 (.tup [.str (Str.ofString "not"), x]) p1 = some (.tup [.str (Str.ofString "not"), x]) := upd_same
        have n1 : p1 ≠ b := ne_b nb h1
        generalize upd G p1 (.tup [.str (Str.ofString "not"), x]) = G1 at s1 e1
        refine ⟨_, rfl, (by show 3 ≤ sizeLine; decide), fun p2 h2 => ?_⟩
        have s2 : Same G1 (upd G1 p2 (.tup [.str (Str.ofString "some"), .str (Str.ofString "x"), x])) := same_upd h2
        have e2 : upd G1 p2 (.tup [.str (Str.ofString "some"), .str (Str.ofString "x"), x]) p2 = some (.tup [.str (Str.ofString "some"), .str (Str.ofString "x"), x]) := upd_same
        have n2 : p2 ≠ b := ne_b (Same.non s1 nb) h2
        generalize upd G1 p2 (.tup [.str (Str.ofString "some"), .str (Str.ofString "x"), x]) = G2 at s2 e2
        refine ⟨_, rfl, (by show 3 ≤ sizeLine; decide), fun p3 h3 => ?_⟩
        have s3 : Same G2 (upd G2 p3 (.tup [.str (Str.ofString "same"), .str (Str.ofString "x"), .str (Str.ofString "x")])) := same_upd h3
        have e3 : upd G2 p3 (.tup [.str (Str.ofString "same"), .str (Str.ofString "x"), .str (Str.ofString "x")]) p3 = some (.tup [.str (Str.ofString "same"), .str (Str.ofString "x"), .str (Str.ofString "x")]) := upd_same
        have n3 : p3 ≠ b := ne_b (Same.non (s1.trans s2) nb) h3
        generalize upd G2 p3 (.tup [.str (Str.ofString "same"), .str (Str.ofString "x"), .str (Str.ofString "x")]) = G3 at s3 e3
        refine ⟨(by show 3 ≤ sizeLine; decide), fun p4 h4 => ?_⟩
        have s4 : Same G3 (upd G3 p4 (.tup [.str (Str.ofString "and"), x, .ref p3])) := same_upd h4
        have e4 : upd G3 p4 (.tup [.str (Str.ofString "and"), x, .ref p3]) p4 = some (.tup [.str (Str.ofString "and"), x, .ref p3]) := upd_same
        have n4 : p4 ≠ b := ne_b (Same.non ((s1.trans s2).trans s3) nb) h4
        generalize upd G3 p4 (.tup [.str (Str.ofString "and"), x, .ref p3]) = G4 at s4 e4
        refine ⟨(by show 3 ≤ sizeLine; decide), fun o ho => ?_⟩
        have s5 : Same G4 (upd G4 o (.lst [.ref p1, .ref p2, .ref p4])) := same_upd ho
        have e5 : upd G4 o (.lst [V.ref p1, V.ref p2, V.ref p4]) o = some (.lst [.ref p1, .ref p2, .ref p4]) := upd_same
        have t4 := ((s1.trans s2).trans s3).trans s4
        have n5 : o ≠ b := ne_b (Same.non t4 nb) ho
        refine ⟨b, g, o, k + 5004 + i, _, rfl, B.same (t4.trans s5), by omega, e5, n5, (by show 0 < 3; decide), (by show 3 ≤ 1000; decide), fun v G6 hv B6 k6 => ?_⟩
        have u5 : Kept b G4 G6 := (Kept.of_same s5).trans k6
        have u4 : Kept b G3 G6 := (Kept.of_same s4).trans u5
        have u3 : Kept b G2 G6 := (Kept.of_same s3).trans u4
        have u2 : Kept b G1 G6 := (Kept.of_same s2).trans u3
        have kk : Kept b G G6 := (Kept.of_same s1).trans u2
        have dx6 := dx.keep kk
        have all : AllTh b G6 (10 + (i + 1)) (204900 + 300 * (i + 1)) [.ref p1, .ref p2, .ref p4] := by
          refine .cons (.tup n1 (u2 _ _ e1 n1) (.cons (.str _) (.cons dx6 .nil))) ?_ (.cons (.tup n2 (u3 _ _ e2 n2) (.cons (.str _) (.cons (.str _) (.cons dx6 .nil)))) ?_
            (.cons (.tup n4 (u5 _ _ e4 n4) (.cons (.str _) (.cons dx6 (.cons (.tup n3 (u4 _ _ e3 n3) (.cons (.str _) (.cons (.str _) (.cons (.str _) .nil)))) .nil)))) ?_ .nil))
          · exact (th2 (Th.str not_ok (Nat.le_refl 64)) th).mono (by omega) (by omega)
          · exact (th3 (Th.str some_ok (Nat.le_refl 64)) (Th.str x_ok.2 (Nat.le_refl 64)) th).mono (by omega) (by omega)
          · exact (th3 (Th.str and_ok (Nat.le_refl 64)) th ((th3 (D := 0) (Th.str same_ok (Nat.le_refl 64)) (Th.str x_ok.2 (Nat.le_refl 64)) (Th.str x_ok.2 (Nat.le_refl 64))).mono (by omega) (Nat.le_refl _))).mono (by omega) (by omega)
        obtain ⟨d', dv, tv⟩ := all v hv
        exact ⟨v, d', ⟨_, _, _, _, rfl⟩, lt.keep kk, B6.mono (by omega), dv, tv⟩
      · clear lt B dx th B2 B3 k2 k3 k23
        rintro σ G ⟨x, d, st, lt, B, dx, th⟩
        exact ⟨x, d, st, lt, B.mono (by omega), dx, th.mono (by omega) (by omega)⟩
    clear lt B dx th
    rintro σ G ⟨x, d, ⟨y2, y6, y7, y8, rfl⟩, lt, B, dx, th⟩
    -- changed
    refine ⟨fun σ G => ∃ (x : V) (d : PyData), Std b a t many x σ ∧ LetAt G b t L ∧ HandAt G b g (k + 10000) ∧ DZ b G x d ∧ Th d 34 209000, ?_, ?_⟩
    · refine ⟨_, rfl, b, g, k + 5100, 3, rfl, B, by omega, by decide, by decide, fun r G2 r0 r3 B2 k2 => ?_⟩
      refine ⟨r, rfl, by omega, by omega, for_range (n := r.toNat) (fun i σ G => ∃ (x : V) (d : PyData), Std b a t many x σ ∧ LetAt G b t L ∧ HandAt G b g (k + 5101 + 400 * i) ∧ DZ b G x d ∧ Th d (16 + 9 * i) (208000 + 300 * i))
        ⟨x, d, ⟨_, _, _, _, rfl⟩, lt.keep k2, B2.mono (by omega), dx.keep k2, th⟩ ?_ ?_⟩
      · clear lt B dx th B2 k2
        rintro i σ G hi ⟨x, d, ⟨y2, y6, y7, y8, rfl⟩, lt, B, dx, th⟩
        have i2 : i ≤ 1 := by omega
        have hz := th.long
        refine ⟨_, rfl, _, rfl, b, g, k + 5101 + 400 * i, x, d, 16 + 9 * i, 208000 + 300 * i, rfl, B, by omega, dx, th, by omega, by omega, fun v d' G2 dv tv B2 k2 => ?_⟩
        exact ⟨v, d', ⟨_, _, _, _, rfl⟩, lt.keep k2, B2.mono (by omega), dv, tv.mono (by omega) (by omega)⟩
      · clear lt B dx th B2 k2
        rintro σ G ⟨x, d, st, lt, B, dx, th⟩
        exact ⟨x, d, st, lt, B.mono (by omega), dx, th.mono (by omega) (by omega)⟩
    clear lt B dx th
    rintro σ G ⟨x, d, ⟨y2, y6, y7, y8, rfl⟩, lt, B, dx, th⟩
    -- what is kept, what is asked
    refine ⟨_, rfl, b, x, d, 34, 209000, rfl, dx, th, by decide, by decide, ?_⟩
    refine ⟨_, rfl, _, rfl, _, rfl, b, t, x, many, L, d, rfl, m0, m5, lt.at_, lt.ok, lt.nd, by have := lt.few; omega, dx, th.ok, fun G2 s2 => ?_⟩
    refine ⟨_, rfl, _, rfl, _, rfl, b, t, x, many, L, d, rfl, s2 _ _ lt.at_, dx.same s2, th.ok, by have := lt.few; omega, fun G3 s3 => ?_⟩
    have s23 := s2.trans s3
    have em := meet_one (many := many) (r := 8) (d := d) lt.ok.nm
    refine ⟨_, _, rfl, _, rfl, ?_⟩
    rw [em, beq_self_eq_true]
    refine iteF ⟨_, rfl, b, x, d, 34, 209000, rfl, dx.same s23, th, by decide, by decide, ?_⟩
    refine ⟨_, rfl, rfl, _, rfl, ?_⟩
    have ed : (!decide (V.str d.shown = V.str d.shown)) = false := by rw [decide_eq_true rfl]; rfl
    show (if (!decide (V.str d.shown = V.str d.shown)) = true then _ else _)
    rw [ed]
    exact iteF ⟨next ▸ B.same s23, _, _, _, _, _, _, _, rfl⟩
  · rintro σ G ⟨B, y2, y3, y4, y5, y6, y7, y8, rfl⟩
    rfl
end
end Nm

/-! The end: what the top has written. -/
namespace Nm
open PySem PySem.Spec PyProof.Rows L2
theorem def_mk {K : PySem.W.Frag} {x qual : Str} {st : Stmt} {f : Addr} {oc : Value} {od an : Option Addr} {osl : Array (Option Value)} {kV doc pm cdv ct : Value} (l : K.lookup f = some ⟨oc, od, .func (PySem.W.fnOf x qual (defArgs st) (defBody st) (defScope st) .none kV doc pm an cdv ct), osl⟩)
    (c : PySem.W.codeIn K cdv qual = true) (k : PySem.W.keepIn K (.ref f) = true) : ∃ fd, Fun K x qual st f fd := ⟨_, fun_mk l c k⟩

theorem all_mk {l : PySem.W.OpenLaw} {w : World} {K : PySem.W.Frag} {h : Heap} {mg : Str → Option Value} {fa fIn fNu fNm fSy fLe fOv fMe fSu fOp fSg fH fD fA fIi fFl fDp fSa fOd fLn fBo fOn fBe fL : Addr} {m1 m2 m3 m4 m5 m6 : Tok} (X : K.In h) (G : h.Ns mainGlobals mg) (hfa : mg "law" = some (.ref fa))
    (g1 : PySem.W.nsIn K mainGlobals "LETTERS" = some (some (.str (Str.ofString "abcdefghijklmnopqrstuvwxyz") m1)))
    (g2 : PySem.W.nsIn K mainGlobals "MOST_LETTERS" = some (some (.int 8 m2)))
    (g3 : PySem.W.nsIn K mainGlobals "MOST_CURVES" = some (some (.int 5 m3)))
    (g4 : PySem.W.nsIn K mainGlobals "MOST_DEEP" = some (some (.int 8 m4)))
    (g5 : PySem.W.nsIn K mainGlobals "MOST_MEANT" = some (some (.int 4 m5)))
    (g6 : PySem.W.nsIn K mainGlobals "NO_SAYING" = some (some (.int 5 m6)))
    (n_int : PySem.W.nsIn K mainGlobals "int" = some none)
    (n_len : PySem.W.nsIn K mainGlobals "len" = some none)
    (n_abs : PySem.W.nsIn K mainGlobals "abs" = some none)
    (n_isinstance : PySem.W.nsIn K mainGlobals "isinstance" = some none)
    (n_tuple : PySem.W.nsIn K mainGlobals "tuple" = some none)
    (n_bool : PySem.W.nsIn K mainGlobals "bool" = some none)
    (n_str : PySem.W.nsIn K mainGlobals "str" = some none)
    (n_all : PySem.W.nsIn K mainGlobals "all" = some none)
    (n_set : PySem.W.nsIn K mainGlobals "set" = some none)
    (n_list : PySem.W.nsIn K mainGlobals "list" = some none)
    (n_range : PySem.W.nsIn K mainGlobals "range" = some none)
    (n_sum : PySem.W.nsIn K mainGlobals "sum" = some none)
    (n_repr : PySem.W.nsIn K mainGlobals "repr" = some none)
    (dIn : PySem.W.nsIn K mainGlobals "is_integer" = some (some (.ref fIn))) (FIn : ∃ fd, Fun K "is_integer" "is_integer" pInteger fIn fd)
    (dNu : PySem.W.nsIn K mainGlobals "is_number" = some (some (.ref fNu))) (FNu : ∃ fd, Fun K "is_number" "is_number" pNumber fNu fd)
    (dNm : PySem.W.nsIn K mainGlobals "is_name" = some (some (.ref fNm))) (FNm : ∃ fd, Fun K "is_name" "is_name" pName fNm fd)
    (dSy : PySem.W.nsIn K mainGlobals "is_saying" = some (some (.ref fSy))) (FSy : ∃ fd, Fun K "is_saying" "is_saying" pSaying fSy fd)
    (dLe : PySem.W.nsIn K mainGlobals "are_letters" = some (some (.ref fLe))) (FLe : ∃ fd, Fun K "are_letters" "are_letters" pLetters fLe fd)
    (dOv : PySem.W.nsIn K mainGlobals "is_saying_over" = some (some (.ref fOv))) (FOv : ∃ fd, Fun K "is_saying_over" "is_saying_over" pOver fOv fd)
    (dMe : PySem.W.nsIn K mainGlobals "meant_in" = some (some (.ref fMe))) (FMe : ∃ fd, Fun K "meant_in" "meant_in" pMeant fMe fd)
    (dSu : PySem.W.nsIn K mainGlobals "is_subject" = some (some (.ref fSu))) (FSu : ∃ fd, Fun K "is_subject" "is_subject" pSubject fSu fd)
    (dOp : PySem.W.nsIn K mainGlobals "is_open" = some (some (.ref fOp))) (FOp : ∃ fd, Fun K "is_open" "is_open" pOpen fOp fd)
    (dSg : PySem.W.nsIn K mainGlobals "is_sign" = some (some (.ref fSg))) (FSg : ∃ fd, Fun K "is_sign" "is_sign" pSign fSg fd)
    (dH : PySem.W.nsIn K mainGlobals "_law_hand" = some (some (.ref fH))) (FH : ∃ fd, Fun K "_law_hand" "_law_hand" sHand fH fd)
    (dD : PySem.W.nsIn K mainGlobals "_law_draw" = some (some (.ref fD))) (FD : ∃ fd, Fun K "_law_draw" "_law_draw" sDraw fD fd)
    (dA : PySem.W.nsIn K mainGlobals "_law_any" = some (some (.ref fA))) (FA : ∃ fd, Fun K "_law_any" "_law_any" sAny fA fd)
    (dIi : PySem.W.nsIn K mainGlobals "_law_is_int" = some (some (.ref fIi))) (FIi : ∃ fd, Fun K "_law_is_int" "_law_is_int" sIsInt fIi fd)
    (dFl : PySem.W.nsIn K mainGlobals "_law_flag" = some (some (.ref fFl))) (FFl : ∃ fd, Fun K "_law_flag" "_law_flag" sFlag fFl fd)
    (dDp : PySem.W.nsIn K mainGlobals "_law_deep" = some (some (.ref fDp))) (FDp : ∃ fd, Fun K "_law_deep" "_law_deep" sDeep fDp fd)
    (dSa : PySem.W.nsIn K mainGlobals "_law_saying" = some (some (.ref fSa))) (FSa : ∃ fd, Fun K "_law_saying" "_law_saying" sSay fSa fd)
    (dOd : PySem.W.nsIn K mainGlobals "_law_odd" = some (some (.ref fOd))) (FOd : ∃ fd, Fun K "_law_odd" "_law_odd" sOdd fOd fd)
    (dLn : PySem.W.nsIn K mainGlobals "_law_is_name" = some (some (.ref fLn))) (FLn : ∃ fd, Fun K "_law_is_name" "_law_is_name" sIsName fLn fd)
    (dBo : PySem.W.nsIn K mainGlobals "_law_bound" = some (some (.ref fBo))) (FBo : ∃ fd, Fun K "_law_bound" "_law_bound" sBound fBo fd)
    (dOn : PySem.W.nsIn K mainGlobals "_law_is_one" = some (some (.ref fOn))) (FOn : ∃ fd, Fun K "_law_is_one" "_law_is_one" sIsOne fOn fd)
    (dBe : PySem.W.nsIn K mainGlobals "_law_bent" = some (some (.ref fBe))) (FBe : ∃ fd, Fun K "_law_bent" "_law_bent" sBent fBe fd)
    (dL : PySem.W.nsIn K mainGlobals "law" = some (some (.ref fL))) (FL : ∃ fd, Fun K "law" "law" sLaw fL fd)
    : ∃ fd : FuncData, (∀ (s : Shared) (v : Value), BindsTo s fd ⟨[v], []⟩ [("script", v)]) ∧ Fun K "law" "law" sLaw fa fd ∧ WdT mg ∧ ∀ base : Heap, K.In base → base.Ns mainGlobals mg → Nonempty (LawT l.prog w K mg base) := by
  have zz := hfa.symm.trans (PySem.W.mg_of X G dL)
  cases zz
  obtain ⟨eIn, FIn⟩ := FIn
  obtain ⟨eNu, FNu⟩ := FNu
  obtain ⟨eNm, FNm⟩ := FNm
  obtain ⟨eSy, FSy⟩ := FSy
  obtain ⟨eLe, FLe⟩ := FLe
  obtain ⟨eOv, FOv⟩ := FOv
  obtain ⟨eMe, FMe⟩ := FMe
  obtain ⟨eSu, FSu⟩ := FSu
  obtain ⟨eOp, FOp⟩ := FOp
  obtain ⟨eSg, FSg⟩ := FSg
  obtain ⟨eH, FH⟩ := FH
  obtain ⟨eD, FD⟩ := FD
  obtain ⟨eA, FA⟩ := FA
  obtain ⟨eIi, FIi⟩ := FIi
  obtain ⟨eFl, FFl⟩ := FFl
  obtain ⟨eDp, FDp⟩ := FDp
  obtain ⟨eSa, FSa⟩ := FSa
  obtain ⟨eOd, FOd⟩ := FOd
  obtain ⟨eLn, FLn⟩ := FLn
  obtain ⟨eBo, FBo⟩ := FBo
  obtain ⟨eOn, FOn⟩ := FOn
  obtain ⟨eBe, FBe⟩ := FBe
  obtain ⟨eL, FL⟩ := FL
  have bIn_ : Binds K eIn ["thing"] [] := FIn.binds (ps := ["thing"]) fun _ _ _ _ _ _ us hl => match us, hl with | [_], _ => rfl
  have bNu_ : Binds K eNu ["thing"] [] := FNu.binds (ps := ["thing"]) fun _ _ _ _ _ _ us hl => match us, hl with | [_], _ => rfl
  have bNm_ : Binds K eNm ["thing"] [] := FNm.binds (ps := ["thing"]) fun _ _ _ _ _ _ us hl => match us, hl with | [_], _ => rfl
  have bSy_ : Binds K eSy ["many", "letters", "thing"] [] := FSy.binds (ps := ["many", "letters", "thing"]) fun _ _ _ _ _ _ us hl => match us, hl with | [_, _, _], _ => rfl
  have bLe_ : Binds K eLe ["thing"] [] := FLe.binds (ps := ["thing"]) fun _ _ _ _ _ _ us hl => match us, hl with | [_], _ => rfl
  have bOv_ : Binds K eOv ["subjects", "letters", "thing"] [] := FOv.binds (ps := ["subjects", "letters", "thing"]) fun _ _ _ _ _ _ us hl => match us, hl with | [_, _, _], _ => rfl
  have bMe_ : Binds K eMe ["subjects", "letters", "thing", "deep"] [] := FMe.binds (ps := ["subjects", "letters", "thing", "deep"]) fun _ _ _ _ _ _ us hl => match us, hl with | [_, _, _, _], _ => rfl
  have bSu_ : Binds K eSu ["thing", "subjects"] [] := FSu.binds (ps := ["thing", "subjects"]) fun _ _ _ _ _ _ us hl => match us, hl with | [_, _], _ => rfl
  have bOp_ : Binds K eOp ["thing", "letters"] [] := FOp.binds (ps := ["thing", "letters"]) fun _ _ _ _ _ _ us hl => match us, hl with | [_, _], _ => rfl
  have bSg_ : Binds K eSg ["thing"] [] := FSg.binds (ps := ["thing"]) fun _ _ _ _ _ _ us hl => match us, hl with | [_], _ => rfl
  have bH_ : Binds K eH ["script"] [] := FH.binds (ps := ["script"]) fun _ _ _ _ _ _ us hl => match us, hl with | [_], _ => rfl
  have bD_ : Binds K eD ["hand", "many"] [] := FD.binds (ps := ["hand", "many"]) fun _ _ _ _ _ _ us hl => match us, hl with | [_, _], _ => rfl
  have bA_ : Binds K eA ["hand", "some"] [] := FA.binds (ps := ["hand", "some"]) fun _ _ _ _ _ _ us hl => match us, hl with | [_, _], _ => rfl
  have bIi_ : Binds K eIi ["thing", "least", "most"] [] := FIi.binds (ps := ["thing", "least", "most"]) fun _ _ _ _ _ _ us hl => match us, hl with | [_, _, _], _ => rfl
  have bFl_ : Binds K eFl ["given", "due"] [] := FFl.binds (ps := ["given", "due"]) fun _ _ _ _ _ _ us hl => match us, hl with | [_, _], _ => rfl
  have bDp_ : Binds K eDp ["many"] [] := FDp.binds (ps := ["many"]) fun _ _ _ _ _ _ us hl => match us, hl with | [_], _ => rfl
  have bSa_ : Binds K eSa ["hand", "many", "letters", "room", "bound"] [] := FSa.binds (ps := ["hand", "many", "letters", "room", "bound"]) fun _ _ _ _ _ _ us hl => match us, hl with | [_, _, _, _, _], _ => rfl
  have bOd_ : Binds K eOd ["hand"] [] := FOd.binds (ps := ["hand"]) fun _ _ _ _ _ _ us hl => match us, hl with | [_], _ => rfl
  have bLn_ : Binds K eLn ["thing"] [] := FLn.binds (ps := ["thing"]) fun _ _ _ _ _ _ us hl => match us, hl with | [_], _ => rfl
  have bBo_ : Binds K eBo ["many", "letters", "thing", "room"] [] := FBo.binds (ps := ["many", "letters", "thing", "room"]) fun _ _ _ _ _ _ us hl => match us, hl with | [_, _, _, _], _ => rfl
  have bOn_ : Binds K eOn ["many", "letters", "thing"] [] := FOn.binds (ps := ["many", "letters", "thing"]) fun _ _ _ _ _ _ us hl => match us, hl with | [_, _, _], _ => rfl
  have bBe_ : Binds K eBe ["hand", "thing"] [] := FBe.binds (ps := ["hand", "thing"]) fun _ _ _ _ _ _ us hl => match us, hl with | [_, _], _ => rfl
  have n_int := PySem.W.mg_none_of X G n_int
  have n_len := PySem.W.mg_none_of X G n_len
  have n_abs := PySem.W.mg_none_of X G n_abs
  have n_isinstance := PySem.W.mg_none_of X G n_isinstance
  have n_tuple := PySem.W.mg_none_of X G n_tuple
  have n_bool := PySem.W.mg_none_of X G n_bool
  have n_str := PySem.W.mg_none_of X G n_str
  have n_all := PySem.W.mg_none_of X G n_all
  have n_set := PySem.W.mg_none_of X G n_set
  have n_list := PySem.W.mg_none_of X G n_list
  have n_range := PySem.W.mg_none_of X G n_range
  have n_sum := PySem.W.mg_none_of X G n_sum
  have n_repr := PySem.W.mg_none_of X G n_repr
  have dIn := PySem.W.mg_of X G dIn
  have dNu := PySem.W.mg_of X G dNu
  have dNm := PySem.W.mg_of X G dNm
  have dSy := PySem.W.mg_of X G dSy
  have dLe := PySem.W.mg_of X G dLe
  have dOv := PySem.W.mg_of X G dOv
  have dMe := PySem.W.mg_of X G dMe
  have dSu := PySem.W.mg_of X G dSu
  have dOp := PySem.W.mg_of X G dOp
  have dSg := PySem.W.mg_of X G dSg
  have dH := PySem.W.mg_of X G dH
  have dD := PySem.W.mg_of X G dD
  have dA := PySem.W.mg_of X G dA
  have dIi := PySem.W.mg_of X G dIi
  have dFl := PySem.W.mg_of X G dFl
  have dDp := PySem.W.mg_of X G dDp
  have dSa := PySem.W.mg_of X G dSa
  have dOd := PySem.W.mg_of X G dOd
  have dLn := PySem.W.mg_of X G dLn
  have dBo := PySem.W.mg_of X G dBo
  have dOn := PySem.W.mg_of X G dOn
  have dBe := PySem.W.mg_of X G dBe
  have dL := PySem.W.mg_of X G dL
  have g1 := PySem.W.mg_of X G g1
  have g2 := PySem.W.mg_of X G g2
  have g3 := PySem.W.mg_of X G g3
  have g4 := PySem.W.mg_of X G g4
  have g5 := PySem.W.mg_of X G g5
  have g6 := PySem.W.mg_of X G g6
  have BT : BltT mg := ⟨n_int, n_len, n_abs⟩
  have T : WdT mg := ⟨BT, n_isinstance, n_tuple, n_bool, n_str, n_all, n_set, n_list, n_range, n_sum, n_repr⟩
  refine ⟨eL, fun s v => ?_, FL, T, fun base _ _ => ?_⟩
  · obtain ⟨_, _, _, _, _, _, _, _, _, rfl, _, _⟩ := FL.ex
    exact .of_eq rfl
  -- the program
  have GIn : FnOk l.prog w K mg base CX0 1 fIn eIn ["thing"] spInteger := ok_integer FIn T
  have iT : IntT l.prog w K mg base := ⟨_, _, GIn, bIn_, dIn, FIn.kp⟩
  have GNu : FnOk l.prog w K mg base CX0 2 fNu eNu ["thing"] spNumber := ok_number FNu iT
  have GNm : FnOk l.prog w K mg base CX0 1 fNm eNm ["thing"] spName := ok_name FNm T ⟨_, g1⟩ ⟨_, g2⟩
  have nT : NameT l.prog w K mg base := ⟨_, _, GNm, bNm_, dNm, FNm.kp⟩
  have GLe : FnOk l.prog w K mg base CX0 2 fLe eLe ["thing"] (spLetters K) := ok_letters FLe T nT
  have GSu : FnOk l.prog w K mg base CX0 2 fSu eSu ["thing", "subjects"] (spSubject K) := ok_subject FSu T iT
  have GOp : FnOk l.prog w K mg base CX0 1 fOp eOp ["thing", "letters"] (spOpen K) := ok_open FOp T
  have GSg : FnOk l.prog w K mg base CX0 2 fSg eSg ["thing"] spSign := ok_sign FSg iT
  have sT : SayT l.prog w K mg base := ⟨nT, _, _, GSu, bSu_, dSu, FSu.kp, _, _, GOp, bOp_, dOp, FOp.kp, _, _, GSg, bSg_, dSg, FSg.kp, ⟨_, g4⟩, ⟨_, g5⟩, ⟨_, g6⟩⟩
  have GMe : ∀ n, FnOk l.prog w K mg base CX0 (n + 3) fMe eMe aMeant (spMeant K n) := ok_meant FMe T sT bMe_ dMe
  have GOv : FnOk l.prog w K mg base CX0 13 fOv eOv ["subjects", "letters", "thing"] (spOver K) := ok_over FOv ⟨_, _, GMe, bMe_, dMe, FMe.kp, ⟨_, g5⟩⟩
  have GSy : FnOk l.prog w K mg base CX0 14 fSy eSy ["many", "letters", "thing"] (spSaying K) := ok_saying FSy T ⟨_, _, GNu, bNu_, dNu, FNu.kp, _, _, GLe, bLe_, dLe, FLe.kp, _, _, GOv, bOv_, dOv, FOv.kp, ⟨_, g3⟩⟩
  -- the law
  have GH : FnOk l.prog w K mg base CX0 1 fH eH ["script"] (spHand K) := ok_hand FH BT
  have GD : FnOk l.prog w K mg base CX0 1 fD eD ["hand", "many"] spDraw := ok_draw FD BT
  have GA : FnOk l.prog w K mg base CX0 2 fA eA ["hand", "some"] spAny := ok_any FA BT FD bD_ dD
  have dr : DrwT l.prog w K mg base := ⟨_, _, GD, bD_, dD, FD.kp, _, _, GA, bA_, dA, FA.kp⟩
  have GIi : FnOk l.prog w K mg base CX0 1 fIi eIi ["thing", "least", "most"] spIsInt := ok_isint FIi T
  have GFl : FnOk l.prog w K mg base CX0 1 fFl eFl ["given", "due"] spFlag := ok_flag FFl T
  have GDp : FnOk l.prog w K mg base CX0 1 fDp eDp ["many"] spDeep := ok_deep FDp T
  have GSa : FnOk l.prog w K mg base CX0 13 fSa eSa aSay (spSay 10) := ok_say FSa T dr bSa_ dSa 10
  have GOd : FnOk l.prog w K mg base CX0 2 fOd eOd ["hand"] spOdd := ok_odd FOd T ⟨dr, _, _, GDp, bDp_, dDp, FDp.kp⟩
  have GLn : FnOk l.prog w K mg base CX0 1 fLn eLn ["thing"] spName := ok_lname FLn T
  have GBo : ∀ n, FnOk l.prog w K mg base CX0 (n + 3) fBo eBo aBound (spBound n) := ok_bound FBo T ⟨_, _, GIi, bIi_, dIi, FIi.kp, _, _, GLn, bLn_, dLn, FLn.kp⟩ bBo_ dBo
  have GOn : FnOk l.prog w K mg base CX0 13 fOn eOn ["many", "letters", "thing"] spIsOne := ok_isone FOn T ⟨_, _, GBo, bBo_, dBo, FBo.kp⟩
  have GBe : FnOk l.prog w K mg base CX0 43 fBe eBe aBent (spBent 40) := ok_bent FBe T ⟨dr, _, _, GOd, bOd_, dOd, FOd.kp⟩ bBe_ dBe 40
  exact ⟨⟨dr, _, _, GH, bH_, dH, FH.kp, _, _, GSa, bSa_, dSa, FSa.kp, _, _, GBe, bBe_, dBe, FBe.kp, _, _, GFl, bFl_, dFl, FFl.kp, _, _, GSy, bSy_, dSy, FSy.kp, _, _, GOn, bOn_, dOn, FOn.kp⟩⟩
theorem walk {l : PySem.W.OpenLaw} {q : Program} {loose : List Str} {XP : (Str → Option Value) → Heap → Prop} {YP : World → Heap → Prop} {d : DefRec} {K : Params → PySem.W.Frag} (hn : l.most = some 63) (hdf : d.params.defaults = [])
    (hY : ∀ (w : World) (h : Heap), YP w h → (K w.params).In h) (hI : importsNone q = true)
    (F : ∀ (w : World) (mg : Str → Option Value) (fa : Addr) (h : Heap), (K w.params).In h → h.Ns mainGlobals mg → mg d.name = some (.ref fa) →
      ∃ fd : FuncData, (∀ (s : Shared) (v : Value), BindsTo s fd ⟨[v], []⟩ [("script", v)]) ∧ Fun (K w.params) "law" "law" sLaw fa fd ∧ WdT mg ∧ ∀ base : Heap, (K w.params).In base → base.Ns mainGlobals mg → Nonempty (LawT l.prog w (K w.params) mg base)) :
    PySem.W.WalkO q loose XP YP l.row.toRowW d [] (fun f vs => PySem.call f vs) := by
  refine Att.attach_callB hn hdf fun w s0 s1 mg mb fa o pm cd doc a vs ns G Y ho hd hcd hmg hobj hints hlen hbits hg => ?_
  have KX := hY w _ Y
  obtain ⟨fd, hb, FL, T, hF⟩ := F w mg fa _ KX G.T.g hmg
  obtain ⟨mm, hm, _⟩ := (G.T.seer hI).mods
  refine top_call KX G.T.g G.T.b G.T.builtins G.T.nolimit hm hg hobj hints (Nat.le_trans hlen (by decide)) fun base H sys e0 hS => ?_
  obtain ⟨U⟩ := hF base e0.mod.kin e0.mod.glob
  exact top_run (k := 43) (v := V.ref a) (u := Value.ref a) FL scLaw ⟨rfl, by decide, by decide⟩ e0 rfl (hb s1 (.ref a)) fun cdv hr => law_body T U sys hS hlen cdv hr
end Nm

open PySem PySem.W PyProof.Rows
set_option maxRecDepth 100000 in
set_option maxHeartbeats 0 in
theorem PySem.Challenge.cw_namedmoments_k32_sayings_judged_holds : PySem.Challenge.rw_namedmoments_k32_sayings_judged.Holds := by
  w_on; o_law; k_head; (case hw => w_witness2)
  k_fill
  refine' Nm.walk (l := PySem.Challenge.rw_namedmoments_k32_sayings_judged) rfl rfl (fun w h Y => PySem.W.kIn_of Y) ?hI ?F
  (case hI => decide +kernel)
  case F =>
    intro w mg fa h KX G hmg
    refine' Nm.all_mk KX G hmg ?g1 ?g2 ?g3 ?g4 ?g5 ?g6 ?n_int ?n_len ?n_abs ?n_isinstance ?n_tuple ?n_bool ?n_str ?n_all ?n_set ?n_list ?n_range ?n_sum ?n_repr ?dIn ?FIn ?dNu ?FNu ?dNm ?FNm ?dSy ?FSy ?dLe ?FLe ?dOv ?FOv ?dMe ?FMe ?dSu ?FSu ?dOp ?FOp ?dSg ?FSg ?dH ?FH ?dD ?FD ?dA ?FA ?dIi ?FIi ?dFl ?FFl ?dDp ?FDp ?dSa ?FSa ?dOd ?FOd ?dLn ?FLn ?dBo ?FBo ?dOn ?FOn ?dBe ?FBe ?dL ?FL
    (case g1 => k_is)
    (case g2 => k_is)
    (case g3 => k_is)
    (case g4 => k_is)
    (case g5 => k_is)
    (case g6 => k_is)
    (case n_int => k_is)
    (case n_len => k_is)
    (case n_abs => k_is)
    (case n_isinstance => k_is)
    (case n_tuple => k_is)
    (case n_bool => k_is)
    (case n_str => k_is)
    (case n_all => k_is)
    (case n_set => k_is)
    (case n_list => k_is)
    (case n_range => k_is)
    (case n_sum => k_is)
    (case n_repr => k_is)
    (case dIn => k_is)
    (case FIn => refine' Nm.def_mk ?l ?c ?k; (case l => k_is); (case c => k_is); (case k => k_is))
    (case dNu => k_is)
    (case FNu => refine' Nm.def_mk ?l ?c ?k; (case l => k_is); (case c => k_is); (case k => k_is))
    (case dNm => k_is)
    (case FNm => refine' Nm.def_mk ?l ?c ?k; (case l => k_is); (case c => k_is); (case k => k_is))
    (case dSy => k_is)
    (case FSy => refine' Nm.def_mk ?l ?c ?k; (case l => k_is); (case c => k_is); (case k => k_is))
    (case dLe => k_is)
    (case FLe => refine' Nm.def_mk ?l ?c ?k; (case l => k_is); (case c => k_is); (case k => k_is))
    (case dOv => k_is)
    (case FOv => refine' Nm.def_mk ?l ?c ?k; (case l => k_is); (case c => k_is); (case k => k_is))
    (case dMe => k_is)
    (case FMe => refine' Nm.def_mk ?l ?c ?k; (case l => k_is); (case c => k_is); (case k => k_is))
    (case dSu => k_is)
    (case FSu => refine' Nm.def_mk ?l ?c ?k; (case l => k_is); (case c => k_is); (case k => k_is))
    (case dOp => k_is)
    (case FOp => refine' Nm.def_mk ?l ?c ?k; (case l => k_is); (case c => k_is); (case k => k_is))
    (case dSg => k_is)
    (case FSg => refine' Nm.def_mk ?l ?c ?k; (case l => k_is); (case c => k_is); (case k => k_is))
    (case dH => k_is)
    (case FH => refine' Nm.def_mk ?l ?c ?k; (case l => k_is); (case c => k_is); (case k => k_is))
    (case dD => k_is)
    (case FD => refine' Nm.def_mk ?l ?c ?k; (case l => k_is); (case c => k_is); (case k => k_is))
    (case dA => k_is)
    (case FA => refine' Nm.def_mk ?l ?c ?k; (case l => k_is); (case c => k_is); (case k => k_is))
    (case dIi => k_is)
    (case FIi => refine' Nm.def_mk ?l ?c ?k; (case l => k_is); (case c => k_is); (case k => k_is))
    (case dFl => k_is)
    (case FFl => refine' Nm.def_mk ?l ?c ?k; (case l => k_is); (case c => k_is); (case k => k_is))
    (case dDp => k_is)
    (case FDp => refine' Nm.def_mk ?l ?c ?k; (case l => k_is); (case c => k_is); (case k => k_is))
    (case dSa => k_is)
    (case FSa => refine' Nm.def_mk ?l ?c ?k; (case l => k_is); (case c => k_is); (case k => k_is))
    (case dOd => k_is)
    (case FOd => refine' Nm.def_mk ?l ?c ?k; (case l => k_is); (case c => k_is); (case k => k_is))
    (case dLn => k_is)
    (case FLn => refine' Nm.def_mk ?l ?c ?k; (case l => k_is); (case c => k_is); (case k => k_is))
    (case dBo => k_is)
    (case FBo => refine' Nm.def_mk ?l ?c ?k; (case l => k_is); (case c => k_is); (case k => k_is))
    (case dOn => k_is)
    (case FOn => refine' Nm.def_mk ?l ?c ?k; (case l => k_is); (case c => k_is); (case k => k_is))
    (case dBe => k_is)
    (case FBe => refine' Nm.def_mk ?l ?c ?k; (case l => k_is); (case c => k_is); (case k => k_is))
    (case dL => k_is)
    (case FL => refine' Nm.def_mk ?l ?c ?k; (case l => k_is); (case c => k_is); (case k => k_is))
