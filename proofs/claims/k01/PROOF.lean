import PyProof.Rows.All
import Wide.All
import OpenK.AllK
import Wide.FinOn
import KE.KExcSuper
import KE.KExcIs
import HandS.ForMost
import HandS.Exc
import HandS.ExcOwn
import HandS.ExcValue
import HandS.ExcInit
import HandS.IsInst
import HandS.Wide
import HandS.More
import HandS.Zip
import HandS.Iter
import KE.KDictKeyed
import KE.KDictWalk
import HandS.Lambda
import HandS.SortKw
import KE.SortKeyHeap
import HandS.Conv
import KE.GoesEnum
import HandS.TryOnly
import HandS.WordsExc
import HandS.Gcd
import HandS.ExcField
import HandS.TupAny
import HandS.Style
import KE.KRevSl
import HandS.EndTab
import PySem.Challenge.RW_namedmoments_k01_whole_curves_judged
set_option Elab.async false
set_option linter.all false
set_option maxRecDepth 100000
set_option maxHeartbeats 4000000
/-! Own exceptions as values: made without and with a field, read, asked by isinstance. -/
namespace Nm
open PySem PySem.Spec PyProof.Rows L2

/-- what the written part says of an exception class -/
structure XT (K : PySem.W.Frag) (C : Addr) : Prop where
  cl : PySem.W.isClsIn K C = true
  ga : PySem.W.findIn K (.ref C) "__getattribute__" = some (some (.builtin "BaseException.__getattribute__"))
  gt : PySem.W.findIn K (.ref C) "__getattr__" = some none
  sub : PySem.W.subIn K (.ref C) (.type "BaseException") = some true
  ca : PySem.W.findIn K (.ref C) "__class__" = some (some (.builtin "object.__class__"))
  gs : PySem.W.specialIn K (.builtin "object.__class__") "__get__" = some (some (.builtin "getset_descriptor.__get__"))
  tk : PySem.W.takesIn K (.builtin "object.__class__") = some true
  mr : PySem.W.mroIn K C (.type "object") = some true
  hd : PySem.W.hasDictIn K C = true
  kp : PySem.W.keepIn K (.ref C) = true

/-- isinstance(e, c), e a made exception -/
def rIsX (K : PySem.W.Frag) : List V → Hp → VK → Prop := fun xs H Q => ∃ (a C : Addr) (d : Option Addr) (c : V) (u : Value) (b : Bool), xs = [.ref a, c] ∧ H a = some (exo a C d) ∧
  (∀ dx, d = some dx → ∃ fs, H dx = some (exd dx fs)) ∧ XT K C ∧ ClsV c u ∧ PySem.W.kitOne K (.ref C) u = some b ∧ Q (.bl b) H
theorem exo_inst {X : Cx} {pins : List (Addr × Obj)} {σ : L2.St} {H : Hp} {s : Shared} {a C : Addr} {d : Option Addr} (I : Inv X pins σ H s) (ha : H a = some (exo a C d)) (hd : ∀ dx, d = some dx → ∃ fs, H dx = some (exd dx fs)) :
    ∃ (ox : Obj) (od : Option Obj), PySem.W.InstAt s.heap a ox C od := by
  obtain ⟨t1, ho⟩ := exo_at I.hok ha
  cases d with
  | none => exact ⟨_, none, ho, rfl, rfl, trivial⟩
  | some dx =>
    obtain ⟨fs, e⟩ := hd dx rfl
    obtain ⟨mA, hns, _⟩ := exd_at I.hok e
    obtain ⟨od, ho', _⟩ := lookIn_ns hns
    exact ⟨_, some od, ho, rfl, rfl, ho'⟩
theorem call_isX {X : Cx} : CallR X (.builtin "isinstance") (rIsX X.K) := by
  intro pins s σ H xs us Q I r h
  obtain ⟨a, C, d, c, u, b, rfl, ha, hd, T, k, e, q⟩ := h
  obtain ⟨u1, u2, rfl, r1, r2⟩ := vals2 r
  have e2 := k.eq r2
  subst e2
  obtain rfl : u1 = Value.ref a := r1
  obtain ⟨ox, od, J⟩ := exo_inst I ha hd
  exact PySem.W.kia_one (PySem.W.kitx_exc T.cl T.ga T.gt T.sub T.ca T.gs T.tk T.mr) I.kIn J e (fun z => nomatch z) fun tk => ⟨.bl b, H, I.tok tk, rfl, q⟩

/-- e.f, e a made exception that bears the field -/
def tXfd (K : PySem.W.Frag) (f : Str) (te : TE) : TE := fun σ H Q => te σ H fun x H1 => ∃ (a C dx : Addr) (fs : List (Str × V)) (v : V), x = .ref a ∧ H1 a = some (exo a C (some dx)) ∧ H1 dx = some (exd dx fs) ∧
  XT K C ∧ PySem.W.findIn K (.ref C) f = some none ∧ fs.lookup f = some v ∧ Q v H1
theorem pe_xfd {X : Cx} {e : Expr} {te : TE} {pos : Pos} {n : Str} (he : PE X e te) (hb : attributeBase e n X.env (eval e X.env) = eval e X.env := by rfl) : PE X (.Attribute e n pos) (tXfd X.K n te) := by
  refine ⟨fun pins s σ H Q I h => ?_⟩
  refine attr_of hb (thn (he.run pins s σ H _ I h) fun u s1 hh => ?_)
  obtain ⟨x, H1, I1, rx, a, C, dx, fs, v, ex, ea, ed, T, hno, l, q⟩ := hh
  subst ex
  obtain rfl : u = Value.ref a := rx
  obtain ⟨t1, ho⟩ := exo_at I1.hok ea
  obtain ⟨mA, hns, hr⟩ := exd_at I1.hok ed
  obtain ⟨od, ho', hl⟩ := lookIn_ns hns
  obtain ⟨u, hu, ru⟩ := RelO.some_of (v := v) (o := mA n) (by rw [← l]; exact hr n)
  exact HandSPX.exc_get (od := some od) I1.kIn ⟨ho, rfl, rfl, ho'⟩ T.ga T.gt T.sub (PySem.W.findObj_own T.hd hno rfl (by rw [hl, hu])) (handed_of ru) ⟨v, H1, I1.tok _, ru, q⟩

/-- C(), an own exception class without __init__ -/
theorem pe_new0 {X : Cx} {C : Addr} {bmB : List Value} {B newId initId : String} {x : Str} {p pos : Pos} (F : ExcBaseFacts B newId initId bmB) (q : PySem.W.excIn X.K C bmB newId = true) (gC : X.mg x = some (.ref C)) (kC : PySem.W.keepIn X.K (.ref C) = true) (hg : Gl X x := by rfl)
    (hdb : (x == ("__debug__" : Str)) = false := by decide) : PE X (.Call (.Name x p) [] [] pos) (fun σ H Q => ∀ a, H a = none → Q (.ref a) (upd H a (exo a C none))) := by
  refine ⟨fun pins s σ H Q I h => ?_⟩
  refine wpAny_Call_Name_kw (ld_glob I hg gC ?_ hdb)
  refine PySem.W.callWith_K0 I.kIn kC ?_
  show wpAny _ _ (call (.ref C) []) _ _ _
  obtain ⟨bm, N, nm, qn, bs, hdct, sn, sub, ab, col, dd, k0, k1, k2, k3, k5, mN, hC, hN, hni, T⟩ := exc_obj I.kIn q
  obtain ⟨hp, g, d, t, os⟩ := s
  refine wpAny_call_exc_subT F T hC hN hni (fun h' a hm => ?_) (by show 0 ≤ sizeLine; omega)
  have hn : H a = none := I.hok.gone hm.new
  obtain ⟨t1, ht, _, _⟩ := hm.there
  exact ⟨.ref a, _, I.laidN hm.keeps hm.new hn (exo_ok ht), rfl, h a hn⟩
end Nm

/-! C(v), C an own exception class whose __init__ says super().__init__(text) and keeps v in a field. -/
namespace Nm
open PySem PySem.Spec PyProof.Rows L2

def iArgs (f : Str) (p1 p2 : Pos) : Arguments := { posonlyargs := [], args := [{ arg := "self", annotation := none, pos := p1 }, { arg := f, annotation := none, pos := p2 }], vararg := none, kwonlyargs := [], kw_defaults := [], kwarg := none, defaults := [] }
def iBody (f txt : Str) (k : Nat) (a1 a2 a3 a4 a5 a6 b1 b2 b3 b4 : Pos) : List Stmt :=
  [.Expr (.Call (.Attribute (.Call (.Name "super" a1) [] [] a2) "__init__" a3) [.Constant (.str txt) k a4] [] a5) a6, .Assign [.Attribute (.Name "self" b1) f b2] (.Name f b3) b4]
def iScope (f : Str) : Scope := { kind := .function, names := [(PySem.Str.ofString "self", .local), (f, .local), (PySem.Str.ofString "__class__", .free), (PySem.Str.ofString "super", .globalImplicit)], isGenerator := false, isCoroutine := false, more := [] }
/-- the tree of super().__init__(text) -/
def ICall (txt : Str) (k : Nat) (a1 a2 a3 a4 a5 : Pos) : Prop := ∃ pl : Sem Bool, ∀ env : Env, eval (.Call (.Attribute (.Call (.Name "super" a1) [] [] a2) "__init__" a3) [.Constant (.str txt) k a4] [] a5) env = (do
  let ov ← attributeBase (.Call (.Name "super" a1) [] [] a2) "__init__" env (eval (.Call (.Name "super" a1) [] [] a2) env)
  standAt a3.atName
  let (f, first) ← holding [ov] (getMethod ov "__init__" pl)
  callWith a5 f first (backTo a5 (starEach [.Constant (.str txt) k a4] env)) [])
/-- the text of such an __init__ -/
def IShape (st : Stmt) (f txt : Str) : Prop := ∃ k p1 p2 a1 a2 a3 a4 a5 a6 b1 b2 b3 b4, defArgs st = iArgs f p1 p2 ∧ defBody st = iBody f txt k a1 a2 a3 a4 a5 a6 b1 b2 b3 b4 ∧ defScope st = iScope f ∧ ICall txt k a1 a2 a3 a4 a5
/-- a field's name is none of the others -/
structure FName (f : Str) : Prop where
  self : (f == (PySem.Str.ofString "self")) = false
  self' : ((PySem.Str.ofString "self") == f) = false
  cls : ((PySem.Str.ofString "__class__") == f) = false
  sup : ((PySem.Str.ofString "super") == f) = false
  dbg : (f == ("__debug__" : Str)) = false
  bnd : ∀ (qual : Str) (p1 p2 : Pos) (body : List Stmt) (kV doc pm : Value) (an : Option Addr) (cdv ct : Value) (cc : Addr) (u v : Value),
    bindArgs (PySem.W.ksFn "__init__" qual (iArgs f p1 p2) body (iScope f) .none kV doc pm an cdv ct cc) ⟨[u, v], []⟩ = (pure [((PySem.Str.ofString "self" : Str), u), (f, v)] : Sem (List (Str × Value)))
/-- what the written part says of the class at C, its __init__ at fI (code at cda, cell at cc) -/
structure XI (K : PySem.W.Frag) (st : Stmt) (qual : Str) (C fI cc cda : Addr) (f txt file : Str) : Prop where
  xt : XT K C
  shape : IShape st f txt
  nf : FName f
  cls : ∃ nm q N bs bm sn sub ab col dd k0 k1 k2 k3 k5, K.lookup C = some (excClassObj nm q C N bs bm true sn sub ab col dd k0 k1 k2 k3 k5 "ValueError.__new__") ∧ PySem.HandSPX.refsVE bm = true
  ini : PySem.W.excInitIn K C [.type "ValueError", .type "Exception", .type "BaseException", .type "object"] "ValueError.__new__" = true
  sa : PySem.W.findIn K (.ref C) "__setattr__" = some (some (.builtin "object.__setattr__"))
  noN : PySem.W.findIn K (.ref C) f = some none
  iC : PySem.W.findIn K (.ref C) "__init__" = some (some (.ref fI))
  tI : PySem.W.typeIn K (.ref fI) = some (.type "function")
  sup : PySem.W.ks_superIn K C C "__init__" = some (some (.builtin "ValueError.__init__"))
  subV : PySem.W.subIn K (.ref C) (.type "ValueError") = some true
  mroC : PySem.W.mroIn K C (.ref C) = some true
  opq : PySem.W.nsIn K cStatics "thirdparty.any" = some none
  cell : ∃ oc od os, K.lookup cc = some ⟨oc, od, .cell (some (.ref C)), os⟩
  code : ∃ oc od vs os tf, K.lookup cda = some ⟨oc, od, .fields vs, os⟩ ∧ vs[2]? = some (.str file tf)
  fn : ∃ (oc : Value) (od : Option Addr) (kV doc pm : Value) (an : Option Addr) (ct : Value) (osl : Array (Option Value)),
    K.lookup fI = some ⟨oc, od, .func (PySem.W.ksFn "__init__" qual (defArgs st) (defBody st) (defScope st) .none kV doc pm an (.ref cda) ct cc), osl⟩ ∧ PySem.W.codeIn K (.ref cda) qual = true
/-- what is asked of the program -/
structure PF (P : Program) (file : Str) : Prop where
  file : ((P.main.file : Str) == file) = true
  top : (P.main.scope.names.lookup ("super" : Str)).isSome = false

section
variable {P : Program} {w : World} {A : Around} {R : Result → Shared → Prop} {K : PySem.W.Frag} {mg : Str → Option Value} {st : Stmt} {qual f txt file : Str} {C fI cc cda : Addr}
theorem xinit {h₀ : Heap} {x t0 : Addr} {v : Value} {s : Shared} (T : XI K st qual C fI cc cda f txt file) (pf : PF P file) (X₀ : K.In h₀) (hgl : h₀.Ns mainGlobals mg) (hms : mg "super" = none)
    (hb : ∃ mb, h₀.Ns builtinsNs mb ∧ ∀ y : Str, y ≠ "__name__" → mb y = bootBuiltins y) (keep : ∀ b o, h₀.get? b = some o → s.heap.get? b = some o) (hlim : s.heap.NoLimit)
    (hx : s.heap.get? x = some (HandSPX.excO C t0)) (hx0 : h₀.get? x = none) (hsz : h₀.objs.size ≤ s.heap.objs.size) (hroom : A.depth < recursionLimit)
    (hq : ∀ h' tk t1 dx, (∀ b o, h₀.get? b = some o → h'.get? b = some o) → h₀.objs.size ≤ dx → dx ≠ x → h'.get? x = some { cls := .ref C, dict := some dx, data := .fields #[.ref t1, .none, .none, .none, .bool false, .none] } →
      h'.Ns1 dx (fun y => if y = f then some v else none) → R (.ok (.ret .none)) { s with heap := h', toks := tk }) :
    codeAny (model P w) A (.call (.ref fI) ⟨[.ref x, v], []⟩) R s := by
  obtain ⟨oc, od, kV, doc, pm, an, ct, osl, ho, hcd⟩ := T.fn
  obtain ⟨k, p1, p2, a1, a2, a3, a4, a5, a6, b1, b2, b3, b4, eA, eB, eS, pl, hpl⟩ := T.shape
  rw [eA, eB, eS] at ho
  obtain ⟨nm, q, N, bs, bm, sn, sub, ab, col, dd, k0, k1, k2, k3, k5, hC, hbm⟩ := T.cls
  have hcl : PySem.W.clsIn K C = some { name := nm, bases := bs, mro := .ref C :: bm, ns := N, qualname := q, hasDict := true, slotNames := sn, subclasses := sub, abstract := ab, collection := col, hasDel := false } := by unfold PySem.W.clsIn; rw [hC] <;> rfl
  obtain ⟨cl, cld, csl, hcell⟩ := T.cell
  obtain ⟨ccl, cdd, vs, ccs, tf, hcode, hvs⟩ := T.code
  obtain ⟨mb, hbn, hbb⟩ := hb
  have nf := T.nf
  have X : K.In s.heap := X₀.keeps keep
  have lf : List.lookup f (iScope f).names = some NameKind.local := by
    have := nf.self
    simp [iScope, List.lookup, this]
  have ls : List.lookup (PySem.Str.ofString "self") (iScope f).names = some NameKind.local := by rfl
  have lc : List.lookup (PySem.Str.ofString "__class__") (iScope f).names = some NameKind.free := by
    have h1 : (PySem.Str.ofString "__class__" == PySem.Str.ofString "self") = false := by decide +kernel
    simp only [iScope, List.lookup, h1, nf.cls, beq_self_eq_true]
  have lp : List.lookup (PySem.Str.ofString "super") (iScope f).names = some NameKind.globalImplicit := by
    have h1 : (PySem.Str.ofString "super" == PySem.Str.ofString "self") = false := by decide +kernel
    have h2 : (PySem.Str.ofString "super" == PySem.Str.ofString "__class__") = false := by decide +kernel
    simp only [iScope, List.lookup, h1, h2, nf.sup, beq_self_eq_true]
  refine ks_codeAny_call_defAt (fd := PySem.W.ksFn "__init__" qual (iArgs f p1 p2) (iBody f txt k a1 a2 a3 a4 a5 a6 b1 b2 b3 b4) (iScope f) .none kV doc pm an (.ref cda) ct cc) (body := iBody f txt k a1 a2 a3 a4 a5 a6 b1 b2 b3 b4) (binds := [("self", .ref x), (f, v)])
    hroom (X _ _ ho) rfl hlim (PySem.W.codeRec_of X hcd) rfl (BindsTo.of_eq (nf.bnd _ _ _ _ _ _ _ _ _ _ _ _ _)) ?hcell ?hloc (fun h₁ hns hk => ?_) rfl rfl rfl
  case hcell =>
    intro y hy
    simp [iScope] at hy
    rcases hy with rfl | rfl | rfl | rfl <;> simp
  case hloc =>
    intro y hy
    simp at hy
    rcases hy with rfl | rfl
    · rfl
    · exact lf
  have X₁ : K.In h₁ := X.keeps hk
  have keep₁ : ∀ b o, h₀.get? b = some o → h₁.get? b = some o := fun b o e => hk b o (keep b o e)
  have hx₁ := hk _ _ hx
  have hsub : PySem.W.Looks (model P w) h₁ (isSubtype (.ref C) (.ref C)) true := PySem.W.looks_mroIn X₁ T.mroC
  -- super().__init__(text)
  refine ks_wpAt_execs_cons (ks_wpAt_Expr_any (ks_wpAt_MethodCall (pl := pl) (ks_wpAt_super_base (f := fI) (cc := cda) (vs := vs) (file := file) (tf := tf) (ar := { arg := "self", annotation := none, pos := p1 }) lp lc (by decide) rfl (X₁ _ _ ho) rfl rfl rfl (X₁ _ _ hcode) rfl hvs pf.file pf.top ?_) (hpl _)))
  refine PySem.W.ks_loadName_global ?ka ?kb ?_
  case ka => exact rfl
  case kb => exact lp
  refine Calls.loadGlobal_builtin (mg := mg) (mb := mb) (v := .type "super") ?ga hms ?gb ((hbb _ (by decide)).trans ?bs) ?_
  case ga => exact hgl.keeps keep₁
  case gb => exact hbn.keeps keep₁
  case bs => first | rfl | decide +kernel
  refine ⟨rfl, ?_⟩
  refine wpAny_loadName_free (c := cc) (v := .ref C) ?fa ?fb ?fc ?fd ?_
  case fa => exact rfl
  case fb => exact lc
  case fc => exact rfl
  case fd => exact ⟨_, X₁ _ _ hcell, rfl⟩
  have hself : List.lookup (PySem.Str.ofString "self") ([(PySem.Str.ofString "self", Value.ref x), (f, v)] : List (Str × Value)).reverse = some (.ref x) := by
    simp only [List.reverse_cons, List.reverse_nil, List.nil_append, List.cons_append, List.lookup, nf.self', beq_self_eq_true]
  have hval : List.lookup f ([(PySem.Str.ofString "self", Value.ref x), (f, v)] : List (Str × Value)).reverse = some v := by
    simp only [List.reverse_cons, List.reverse_nil, List.nil_append, List.cons_append, List.lookup, beq_self_eq_true]
  refine wpAny_loadName_local (v := .ref x) ?la ?lb hns hself ?_
  case la => exact rfl
  case lb => exact ls
  refine ks_wpAny_isType_cls (X₁ _ _ hC) rfl ⟨rfl, ?_⟩
  refine ks_wpAny_call_super (X₁ _ _ hC) rfl hx₁ rfl (fun c e => nomatch e) hsub (fun h₂ e₂ k₂ => ?_)
  have X₂ : K.In h₂ := X₁.keeps k₂
  have I₂ : PySem.W.InstAt h₂ x (HandSPX.excO C t0) C none := ⟨k₂ _ _ hx₁, rfl, rfl, trivial⟩
  refine PySem.W.kxs_getMethod PySem.W.kxs_ValueError e₂ (PySem.W.looks_opaque X₂ T.opq) (l₀ := .ref C :: bm) ?m1 rfl X₂ ?m2 ?m3 ?m4 (by decide) ?_
  case m1 => exact fun A Q E s k q => wpAny_bind ((PySem.W.looks_clsIn X₂ hcl) A _ E s k (wpAny_pure q))
  case m2 =>
    have e := T.sup
    unfold PySem.W.ks_superIn at e
    rw [hcl] at e
    exact e
  case m3 => exact I₂.type.andThen (PySem.W.looks_subIn X₂ T.subV)
  case m4 => exact PySem.W.ks_ne X₂ I₂ hcl
  -- the ledger: the wrapper, the exception
  have F₀ : PyProof.Rows.Fr h₀ s.heap.objs.size h₂ (fun y => List.lookup y ([(PySem.Str.ofString "self", Value.ref x), (f, v)] : List (Str × Value)).reverse) := ⟨hns.keeps k₂, fun b o e => k₂ b o (keep₁ b o e), hsz⟩
  have xL : x ≠ s.heap.objs.size := Nat.ne_of_lt (Heap.lt_size hx)
  have N₀ : PyProof.Rows.News h₀ s.heap.objs.size h₂ [(x, PySem.W.excObj C t0 none .none)] := by
    intro p hp
    obtain rfl : p = (x, PySem.W.excObj C t0 none .none) := List.mem_singleton.mp hp
    exact ⟨k₂ _ _ hx₁, xL, hx0⟩
  obtain ⟨F₃, N₃, l₃⟩ := PySem.W.ks_newsPush (s := ⟨h₂, s.gens, s.drawn, s.toks, s.os⟩) (h' := h₂.push (PySem.W.kxs_mw "ValueError.__init__" x)) (o := PySem.W.kxs_mw "ValueError.__init__" x) F₀ N₀ rfl (Heap.get?_push_at rfl rfl) (fun b o e => Heap.get?_push_of_some _ e)
  have nu : h₂.objs.size ≠ x := Nat.ne_of_gt (Heap.lt_size (k₂ _ _ hx₁))
  refine PySem.W.kxs_callWith1 N₃ List.mem_cons_self ?_
  show wpAny _ _ (spliced ((false, eval (.Constant (.str txt) k a4) _) :: [])) _ _ _
  refine Calls.spliced_cons (Calls.Constant_str (Calls.spliced_nil ⟨PySem.W.kxs_at N₃ List.mem_cons_self, ?_⟩))
  have FB := PySem.F.excBase_ValueError
  refine PySem.W.kxs_call (m := fun y => List.lookup y ([(PySem.Str.ofString "self", Value.ref x), (f, v)] : List (Str × Value)).reverse) F₃ X₀ N₃ FB T.ini List.mem_cons_self
    (PySem.W.UpdF.tail nu (PySem.W.UpdF.head (fun p hp => nomatch hp))) (by show 1 ≤ sizeLine; rw [sizeLine_eq]; decide) (fun t' h₄ F₄ N₄ l₄ => ?_)
  have X₄ : K.In h₄ := X₀.keeps F₄.keep
  have hx₄ : h₄.get? x = some (HandSPX.excO C t') := (N₄ (x, PySem.W.excObj C t' none .none) (by simp)).1
  -- self.f = f
  show PySem.wpAt _ _ _ (execs _ _) _ _ _
  refine wpAt_of_wpAny (wpAny_execs_cons (plainObj_wpAny_Assign_Attribute ?_))
  refine wpAny_Name (wpAny_loadName_local ?na ?nb F₄.ns hval ?_) nf.dbg
  case na => exact rfl
  case nb => exact lf
  refine wpAny_Name (wpAny_loadName_local ?oa ?ob F₄.ns hself ?_) (by decide)
  case oa => exact rfl
  case ob => exact ls
  refine PySem.W.set_plain X₄ (ox := HandSPX.excO C t') (od := none) ⟨hx₄, rfl, rfl, trivial⟩ T.sa ?_
  refine HandSPX.exc_osa X₄ hx₄ hcl (show HandSPX.refsVE (.ref C :: bm) = true from hbm) rfl T.noN (fun h₅ tk₅ dx k₅ dn dne hx₅ hn₅ => ?_)
  show wpAny _ _ (execs _ _) _ _ _
  have hle : h₀.objs.size ≤ dx := by
    have q : s.heap.objs.size < h₄.objs.size := F₄.ns.lt
    have dn' : h₄.objs.size ≤ dx := dn
    omega
  exact wpAny_execs_nil (hq h₅ tk₅ t' dx (fun b o e => k₅ b o (fun z => by rw [z, hx0] at e; cases e) (F₄.keep b o e)) hle dne hx₅ hn₅)

end
/-- C(v): a new exception with its own new dict that bears the field -/
def tNewF (C : Addr) (f : Str) (ta : TA) : TE := fun σ H Q => ta σ H fun vs H1 => ∃ v, vs = [v] ∧ ∀ a d, H1 a = none → H1 d = none → a ≠ d → Q (.ref a) (upd (upd H1 a (exo a C (some d))) d (exd d [(f, v)]))
theorem relO_one {f : Str} {v : V} {u : Value} (r : RelV v u) (g : Str) : RelO (([(f, v)] : List (Str × V)).lookup g) (if g = f then some u else none) := relO_put (fs := []) (mA := fun _ => none) r (fun _ => True.intro) g
theorem pe_newF {X : Cx} {st : Stmt} {qual f txt file x : Str} {C fI cc cda : Addr} {a : Expr} {ta : TA} {p pos : Pos} (T : XI X.K st qual C fI cc cda f txt file) (pf : PF X.prog file) (hms : X.mg "super" = none) {k : Nat} (hr : Room k X.A) (gC : X.mg x = some (.ref C)) (ha : PA X [a] ta) (hg : Gl X x := by rfl)
    (hdb : (x == ("__debug__" : Str)) = false := by decide) (he : starEach (a :: []) X.env = (false, eval a X.env) :: starEach [] X.env := by rfl) (hpl : (backTo pos (starEach [] X.env)).any (·.1) = false := by rfl) :
    PE X (.Call (.Name x p) [a] [] pos) (tNewF C f ta) := by
  refine ⟨fun pins s σ H Q I h => ?_⟩
  obtain ⟨nm, q, N, bs, bm, sn, sub, ab, col, dd, k0, k1, k2, k3, k5, hC, hbm⟩ := T.cls
  refine wpAny_Call_Name_kw (ld_glob I hg gC ?_ hdb)
  refine PySem.W.callWith_K (h₀ := X.base) I.ok.mod.kin T.xt.kp (thn (ha.run pos pins s σ H _ I h) fun us s1 hh => ?_) he hpl
  obtain ⟨vs, H1, I1, r1, v, ev, q1⟩ := hh
  subst ev
  refine ⟨I1.kIn, ?_⟩
  cases r1 with
  | cons rv rn =>
    rename_i v' us'
    cases rn
    show wpAny _ _ (call (.ref C) [v']) _ _ _
    have hlim := I1.nolimit
    have hK := I1.kIn
    have hgl : s1.heap.Ns mainGlobals X.mg := I1.mod.glob.keeps I1.bk
    have hbl : ∃ mb, s1.heap.Ns builtinsNs mb ∧ ∀ y : Str, y ≠ "__name__" → mb y = bootBuiltins y := by
      obtain ⟨mb, h1, h2⟩ := I1.mod.blt
      exact ⟨mb, h1.keeps I1.bk, h2⟩
    obtain ⟨hp, g, dr, tk, os⟩ := s1
    have kk : ∀ b o, hp.get? b = some o → ((hp.push (PySem.W.kdv_tup [v'])).push (HandSPX.excO C hp.objs.size)).get? b = some o := fun b o e => Heap.get?_push_of_some _ (Heap.get?_push_of_some _ e)
    have hget : ((hp.push (PySem.W.kdv_tup [v'])).push (HandSPX.excO C hp.objs.size)).get? (hp.objs.size + 1) = some (HandSPX.excO C hp.objs.size) := by heap_get
    have hnew : hp.get? (hp.objs.size + 1) = none := Heap.get?_none_of_le (Nat.le_succ _)
    refine wpAny_call (HandSPX.call_own F.excBase_ValueError (fun Y => HandSPX.refsVE_contains Y bm hbm) (hK _ _ hC) (PySem.W.looks_findIn hK T.iC) (fun self => PySem.W.bind_fn hK self T.tI) (by show 1 ≤ sizeLine; rw [sizeLine_eq]; decide) ?_)
    refine xinit (h₀ := hp) (mg := X.mg) T pf hK hgl hms hbl kk (hlim.keeps kk) hget hnew (by rw [Heap.size_push, Heap.size_push]; omega) ?_ (fun h' tk' t1 dx k' dn dne hx hns => ?_)
    · show X.A.depth + 1 < recursionLimit
      have := hr.dp
      omega
    refine ⟨rfl, ?_⟩
    show EP X pins σ Q (.ref (hp.objs.size + 1)) ⟨h', g, dr, tk', os⟩
    obtain ⟨G, g1, g2⟩ := restrict h' fun b => decide (b ≠ dx)
    have gk : ∀ b, b ≠ dx → G.get? b = h'.get? b := fun b hb => g1 b (decide_eq_true hb)
    have gd : G.get? dx = none := g2 dx (by simp)
    have old : ∀ b o, hp.get? b = some o → G.get? b = some o := fun b o e => (gk b (Nat.ne_of_lt (Nat.lt_of_lt_of_le (Heap.lt_size e) dn))).trans (k' b o e)
    have nd : H1 dx = none := I1.hok.fresh dn
    have na : H1 (hp.objs.size + 1) = none := I1.hok.fresh (Nat.le_succ _)
    have J1 : Inv X pins σ (upd H1 (hp.objs.size + 1) (exo (hp.objs.size + 1) C (some dx))) ⟨G, g, dr, tk', os⟩ := I1.laid (t' := tk') old (Nat.le_succ _) (exo_ok ((gk _ dne.symm).trans hx))
    have J2 : Inv X pins σ (upd (upd H1 (hp.objs.size + 1) (exo (hp.objs.size + 1) C (some dx))) dx (exd dx [(f, v)])) ⟨h', g, dr, tk', os⟩ := J1.laidN (t' := tk') (fun b u e => by
      by_cases hb : b = dx
      · have e' : G.get? b = some u := e
        rw [hb, gd] at e'
        cases e'
      · exact (gk b hb).symm.trans e) gd (by rw [upd_ne dne]; exact nd) (exd_ok hns (relO_one rv))
    exact ⟨.ref (hp.objs.size + 1), _, J2, rfl, q1 _ dx na nd dne.symm⟩
end Nm

/-! The law's bag of drawn numbers: _law_bag, _law_pick, _law_some. -/
namespace Nm
open PySem PySem.Spec PyProof.Rows L2

def topS (i : Nat) : Stmt := PySem.Challenge.pw_namedmoments_k01_whole_curves_judged.main.body.getD i (.Pass ⟨0, 0, 0, 0⟩)
abbrev sBag : Stmt := topS 21
abbrev sPick : Stmt := topS 22
abbrev sSome : Stmt := topS 23

/-- the bag at b: its seed, how many were drawn (at most n), its great numbers at g, what is always drawn -/
structure BagAt (H : Hp) (b g : Addr) (n : Nat) : Prop where
  ne : b ≠ g
  bag : ∃ (seed c : Int) (al : V), H b = some (.lst [.int seed, .int c, .ref g, al]) ∧ 0 ≤ seed ∧ seed < 2147483648 ∧ 0 ≤ c ∧ c ≤ n ∧ (al = .non ∨ ∃ a, al = .int a ∧ 0 ≤ a)
  gr : ∃ gs : List Int, H g = some (.lst (gs.map V.int)) ∧ ∀ z ∈ gs, 0 ≤ z
theorem BagAt.mono {H : Hp} {b g : Addr} {n m : Nat} (h : BagAt H b g n) (e : n ≤ m) : BagAt H b g m := by
  obtain ⟨ne, ⟨seed, c, al, h1, h2, h3, h4, h5, h6⟩, gr⟩ := h
  exact ⟨ne, ⟨seed, c, al, h1, h2, h3, h4, by omega, h6⟩, gr⟩
/-- all but the bag's two lists is as it was -/
def KeptB (b g : Addr) (H H' : Hp) : Prop := ∀ c o, H c = some o → c ≠ b → c ≠ g → H' c = some o
theorem KeptB.refl {b g : Addr} (H : Hp) : KeptB b g H H := fun _ _ h _ _ => h
theorem KeptB.trans {b g : Addr} {H H1 H2 : Hp} (x : KeptB b g H H1) (y : KeptB b g H1 H2) : KeptB b g H H2 := fun c o h n1 n2 => y c o (x c o h n1 n2) n1 n2
/-- a place of the bag is kept under what is new -/
theorem BagAt.same {H H' : Hp} {b g : Addr} {n : Nat} (h : BagAt H b g n) (e : Same H H') : BagAt H' b g n := by
  obtain ⟨ne, ⟨seed, c, al, h1, h2⟩, gs, h3, h4⟩ := h
  exact ⟨ne, ⟨seed, c, al, e _ _ h1, h2⟩, gs, e _ _ h3, h4⟩

/-- the built-in words that these use are still the built-in ones -/
structure BltT (mg : Str → Option Value) : Prop where
  int : mg "int" = none
  len : mg "len" = none
  abs : mg "abs" = none
  sum : mg "sum" = none

section
variable {P : Program} {w : World} {K : PySem.W.Frag} {mg : Str → Option Value} {base : Heap}
/-! ### a number is drawn -/
def spPick : Sp := fun vs H Q _ => ∃ (b g : Addr) (n : Nat) (m : Int), vs = [.ref b, .int m] ∧ BagAt H b g n ∧ n < 1000000000000 ∧ 0 < m ∧ m < 2 ^ 1000 ∧
  ∀ (r : Int) (H' : Hp), 0 ≤ r → r < m → BagAt H' b g (n + 1) → KeptB b g H H' → Q (.int r) H'
theorem scPick : FnScope ["_law_bag_here", "_law_many", "_law_great", "_law_digit", "_law_number"] ["_law_bag_here", "_law_many"] (defScope sPick) := ⟨rfl, rfl, rfl, by decide +kernel, rfl, by decide +kernel, by decide +kernel⟩
theorem ok_pick {f : Addr} {fd : FuncData} {k : Nat} (F : Fun K "_law_pick" "_law_pick" sPick f fd) (T : BltT mg) : FnOk P w K mg base CX0 (k + 1) f fd ["_law_bag_here", "_law_many"] spPick := by
  refine F.ok scPick (fun vs H Q E h => ?_) (fun cdv A outer s H vs Q E hr h => ?_)
  · obtain ⟨b, g, n, m, rfl, _⟩ := h
    rfl
  · obtain ⟨b, g, n, m, rfl, B, hn, hm, hm2, q⟩ := h
    refine ⟨_, pss_cons (ps_if (pt_cmpR op_notN (pe_ix ix_list (pv 0) pe_int (fun _ _ => rfl)) pe_non (nomark _))
        (pss_one (ps_ret (pe_op op_mod (pe_callTy call_int1 (by rfl) T.int (by decide +kernel) (pa_cons (pe_ix ix_list (pv 0) pe_int (fun _ _ => rfl)) pa_nil)) (pv 1)))) pss_nil)
      (pss_cons (ps_asg (pe_op op_add (pe_ix ix_list (pv 0) pe_int (fun _ _ => rfl)) pe_int) (pg_sub (pv 0) pe_int set_list))
      (pss_cons (ps_set (i := 2) scPick.nd rfl (.inl rfl) (pe_ix ix_list (pv 0) pe_int (fun _ _ => rfl)))
      (pss_cons (ps_if (pt_cmpR op_gt (pe_callB call_len_seq (by rfl) T.len PySem.boot_len (pa_cons (pv 2) pa_nil)) pe_int (nomark _))
        (pss_cons (ps_set (i := 3) scPick.nd rfl (.inl rfl) (pe_op op_mod (pe_callTy call_int1 (by rfl) T.int (by decide +kernel) (pa_cons (pe_ix ix_list (pv 2) pe_int (fun _ _ => rfl)) pa_nil)) (pv 1)))
        (pss_cons (ps_asg (pe_op op_fdivW (pe_callTy call_int1 (by rfl) T.int (by decide +kernel) (pa_cons (pe_ix ix_list (pv 2) pe_int (fun _ _ => rfl)) pa_nil)) (pv 1)) (pg_sub (pv 2) pe_int set_list))
        (pss_cons (ps_if (pt_cmpR op_eq (pe_ix ix_list (pv 2) pe_int (fun _ _ => rfl)) pe_int (nomark _))
          (pss_one (ps_expr (pe_bm PySem.F.plainAttrs_list PySem.F.slot_list_pop PySem.F.type_list_pop mt_popAt (pv 2) (pa_cons pe_int pa_nil)))) pss_nil)
        (pss_one (ps_ret (pv 3)))))) pss_nil)
      (pss_cons (ps_set (i := 4) scPick.nd rfl (.inl rfl) (pe_op op_mod (pe_callTy call_int1 (by rfl) T.int (by decide +kernel) (pa_cons (pe_op op_mul (pe_op op_add (pe_ix ix_list (pv 0) pe_int (fun _ _ => rfl)) (pe_op op_mul pe_int (pe_ix ix_list (pv 0) pe_int (fun _ _ => rfl)))) pe_int) pa_nil)) pe_int))
      (pss_cons (ps_set (i := 4) scPick.nd rfl (.inl rfl) (pe_op op_mod (pe_callTy call_int1 (by rfl) T.int (by decide +kernel) (pa_cons (pe_op op_mul (pv 4) (pe_op op_add (pe_op op_fdiv (pv 4) pe_int) pe_int)) pa_nil)) pe_int))
      (pss_cons (ps_set (i := 4) scPick.nd rfl (.inl rfl) (pe_op op_mod (pe_callTy call_int1 (by rfl) T.int (by decide +kernel) (pa_cons (pe_op op_mul (pv 4) (pe_op op_add (pe_op op_fdiv (pv 4) pe_int) pe_int)) pa_nil)) pe_int))
      (pss_one (ps_ret (pe_op op_mod (pe_callTy call_int1 (by rfl) T.int (by decide +kernel) (pa_cons (pe_op op_fdiv (pv 4) pe_int) pa_nil)) (pv 1)))))))))), ?_⟩
    obtain ⟨ne, ⟨seed, c, al, hb, hs0, hs1, hc0, hc1, hal⟩, gs, hg, hgs⟩ := id B
    have hn' : n < 1000000000000 := hn
    have a3 : atI [V.int seed, .int c, .ref g, al] 3 = some al := rfl
    have a0 : ∀ y z : V, atI [V.int seed, y, .ref g, z] 0 = some (.int seed) := fun _ _ => rfl
    have a1 : atI [V.int seed, .int c, .ref g, al] 1 = some (.int c) := rfl
    refine ⟨_, rfl, b, _, 3, al, rfl, rfl, SqL.of hb, a3, rfl, _, rfl, ?_⟩
    rcases hal with rfl | ⟨a, rfl, ha⟩
    · -- nothing is always drawn
      refine iteF ?_
      -- bag[1] = bag[1] + 1
      refine ⟨_, rfl, b, _, 1, .int c, rfl, rfl, SqL.of hb, a1, c, 1, rfl, rfl, _, rfl, b, _, 1, 1, rfl, rfl, hb, rfl, ?_⟩
      obtain ⟨H1, eH1⟩ : ∃ H1, H1 = upd H b (.lst [.int seed, .int (c + 1), .ref g, .non]) := ⟨_, rfl⟩
      have hb1 : H1 b = some (.lst [.int seed, .int (c + 1), .ref g, .non]) := by rw [eH1, upd_same]
      have hg1 : H1 g = some (.lst (gs.map V.int)) := by rw [eH1, upd_ne ne.symm]; exact hg
      have k1 : KeptB b g H H1 := fun a o e n1 _ => by rw [eH1, upd_ne n1]; exact e
      show tSeq _ _ _ _ (upd H b (.lst [.int seed, .int (c + 1), .ref g, .non]))
      rw [← eH1]
      -- great = bag[2]; if len(great) > 0
      refine ⟨_, rfl, b, _, 2, .ref g, rfl, rfl, SqL.of hb1, rfl, ?_⟩
      refine ⟨_, rfl, g, _, rfl, .inl (SqL.of hg1), _, _, rfl, rfl, _, rfl, ?_⟩
      rcases gs with _ | ⟨z, gs⟩
      · refine ite2 (fun h => absurd h (by decide)) (fun _ => ?_)
        have hx0 : 0 ≤ (seed + 7919 * (c + 1)) * 48271 := Int.mul_nonneg (by omega) (by decide)
        have b1 : -(2 ^ 64) < seed + 7919 * (c + 1) ∧ seed + 7919 * (c + 1) < 2 ^ 64 := by omega
        refine ⟨_, rfl, b, _, 0, .int seed, rfl, rfl, SqL.of hb1, rfl, _, rfl, b, _, 1, .int (c + 1), rfl, rfl, SqL.of hb1, rfl, 7919, c + 1, rfl, rfl, .inl (by decide), seed, 7919 * (c + 1), rfl, rfl, _, 48271, rfl, rfl, .inl b1, .inl ⟨_, rfl, _, 2147483647, rfl, rfl, (show (0 : Int) < 2147483647 by decide), ?_⟩⟩
        obtain ⟨y0, ey0⟩ : ∃ y, y = (seed + 7919 * (c + 1)) * 48271 % 2147483647 := ⟨_, rfl⟩
        have y00 : 0 ≤ y0 := by rw [ey0]; exact Int.emod_nonneg _ (by decide)
        have y01 : y0 < 2147483648 := by rw [ey0]; exact Int.lt_trans (Int.emod_lt_of_pos _ (by decide)) (by decide)
        show gName 4 (V.int ((seed + 7919 * (c + 1)) * 48271 % 2147483647)) _ _ _
        rw [← ey0]
        refine ⟨_, rfl, _, rfl, y0, 1009, rfl, rfl, ⟨by decide, by decide⟩, _, 69621, rfl, rfl, y0, _, rfl, rfl, .inl (by omega), .inl ⟨_, rfl, _, 2147483647, rfl, rfl, (show (0 : Int) < 2147483647 by decide), ?_⟩⟩
        obtain ⟨y1, ey1⟩ : ∃ y, y = y0 * (y0 / 1009 + 69621) % 2147483647 := ⟨_, rfl⟩
        have y10 : 0 ≤ y1 := by rw [ey1]; exact Int.emod_nonneg _ (by decide)
        have y11 : y1 < 2147483648 := by rw [ey1]; exact Int.lt_trans (Int.emod_lt_of_pos _ (by decide)) (by decide)
        show gName 4 (V.int (y0 * (y0 / 1009 + 69621) % 2147483647)) _ _ _
        rw [← ey1]
        refine ⟨_, rfl, _, rfl, y1, 2003, rfl, rfl, ⟨by decide, by decide⟩, _, 40692, rfl, rfl, y1, _, rfl, rfl, .inl (by omega), .inl ⟨_, rfl, _, 2147483399, rfl, rfl, (show (0 : Int) < 2147483399 by decide), ?_⟩⟩
        obtain ⟨y2, ey2⟩ : ∃ y, y = y1 * (y1 / 2003 + 40692) % 2147483399 := ⟨_, rfl⟩
        show gName 4 (V.int (y1 * (y1 / 2003 + 40692) % 2147483399)) _ _ _
        rw [← ey2]
        refine ⟨_, rfl, y2, 16, rfl, rfl, ⟨by decide, by decide⟩, .inl ⟨_, rfl, _, rfl, _, m, rfl, rfl, hm, ?_⟩⟩
        exact q _ _ (Int.emod_nonneg _ (by omega)) (Int.emod_lt_of_pos _ hm) ⟨ne, ⟨seed, c + 1, .non, hb1, hs0, hs1, by omega, by omega, .inl rfl⟩, [], hg1, fun _ h => nomatch h⟩ k1
      · refine ite2 (fun _ => ?_) (fun h => absurd h (by simp))
        have hz : 0 ≤ z := hgs z List.mem_cons_self
        have a0' : atI (((z :: gs) : List Int).map V.int) 0 = some (.int z) := atI_nat (j := 0) rfl
        have i0 : ixN (((z :: gs) : List Int).map V.int).length 0 = some 0 := by
          have e := PyProof.Rows.seqIndex?_zero (n := (((z :: gs) : List Int).map V.int).length) (by simp)
          unfold ixN
          simpa using e
        refine ⟨_, rfl, g, _, 0, .int z, rfl, rfl, SqL.of hg1, a0', .inl ⟨z, rfl, _, rfl, z, m, rfl, rfl, hm, ?_⟩⟩
        refine ⟨_, rfl, g, _, 0, .int z, rfl, rfl, SqL.of hg1, a0', .inl ⟨z, rfl, _, rfl, z, m, rfl, rfl, wide_div (b := 1000) hm (show m.natAbs < 2 ^ 1000 by omega) (by decide) (by decide), _, rfl, g, _, 0, 0, rfl, rfl, hg1, i0, ?_⟩⟩
        obtain ⟨H2, eH2⟩ : ∃ H2, H2 = upd H1 g (.lst (.int (z / m) :: gs.map V.int)) := ⟨_, rfl⟩
        have hg2 : H2 g = some (.lst (.int (z / m) :: gs.map V.int)) := by rw [eH2, upd_same]
        have hb2 : H2 b = some (.lst [.int seed, .int (c + 1), .ref g, .non]) := by rw [eH2, upd_ne ne]; exact hb1
        have k2 : KeptB b g H H2 := fun a o e n1 n2 => by rw [eH2, upd_ne n2]; exact k1 a o e n1 n2
        show tSeq _ _ _ _ (upd H1 g (.lst (.int (z / m) :: gs.map V.int)))
        rw [← eH2]
        have hq : 0 ≤ z / m := Int.ediv_nonneg hz (by omega)
        have r0 : 0 ≤ z % m := Int.emod_nonneg _ (by omega)
        have r1 : z % m < m := Int.emod_lt_of_pos _ hm
        have a0'' : atI (V.int (z / m) :: gs.map V.int) 0 = some (.int (z / m)) := atI_nat (j := 0) rfl
        refine ⟨_, rfl, g, _, 0, .int (z / m), rfl, rfl, SqL.of hg2, a0'', rfl, _, rfl, ?_⟩
        refine ite2 (fun _ => ?_) (fun _ => ?_)
        · refine ⟨.ref g, rfl, .inl ⟨rfl, _, SqL.of hg2⟩, g, _, 0, 0, .int (z / m), rfl, rfl, hg2, by decide, by decide, ?_, rfl, ?_⟩
          · exact PyProof.Rows.seqIndex?_zero (by simp)
          refine ⟨_, rfl, q _ _ r0 r1 ⟨ne, ⟨seed, c + 1, .non, ?_, hs0, hs1, by omega, by omega, .inl rfl⟩, gs, ?_, fun y hy => hgs y (List.mem_cons_of_mem _ hy)⟩ fun a o e n1 n2 => ?_⟩
          · rw [upd_ne ne]; exact hb2
          · rw [upd_same]; rfl
          · rw [upd_ne n2]; exact k2 a o e n1 n2
        · refine ⟨_, rfl, q _ _ r0 r1 ⟨ne, ⟨seed, c + 1, .non, hb2, hs0, hs1, by omega, by omega, .inl rfl⟩, z / m :: gs, hg2, fun y hy => ?_⟩ k2⟩
          rcases List.mem_cons.mp hy with rfl | hy
          · exact hq
          · exact hgs y (List.mem_cons_of_mem _ hy)
    · refine iteT ?_
      refine ⟨_, rfl, b, _, 3, _, rfl, rfl, SqL.of hb, a3, .inl ⟨a, rfl, _, rfl, a, m, rfl, rfl, hm, ?_⟩⟩
      exact q _ _ (Int.emod_nonneg _ (by omega)) (Int.emod_lt_of_pos _ hm) (B.mono (Nat.le_succ n)) (KeptB.refl H)
/-! ### one of a list is drawn -/
def spSome : Sp := fun vs H Q _ => ∃ (b g t : Addr) (n : Nat) (xs : List V), vs = [.ref b, .ref t] ∧ BagAt H b g n ∧ n < 1000000000000 ∧ H t = some (.lst xs) ∧ t ≠ b ∧ t ≠ g ∧ 0 < xs.length ∧ xs.length ≤ 1000 ∧
  ∀ (j : Nat) (v : V) (H' : Hp), xs[j]? = some v → BagAt H' b g (n + 1) → KeptB b g H H' → Q v H'
theorem scSome : FnScope ["_law_bag_here", "_law_things"] ["_law_bag_here", "_law_things"] (defScope sSome) := ⟨rfl, rfl, rfl, by decide +kernel, rfl, by decide +kernel, by decide +kernel⟩
theorem ok_some {f fP : Addr} {fd fdP : FuncData} {k : Nat} (F : Fun K "_law_some" "_law_some" sSome f fd) (T : BltT mg) (FP : Fun K "_law_pick" "_law_pick" sPick fP fdP) (bP : Binds K fdP ["_law_bag_here", "_law_many"] []) (gP : mg "_law_pick" = some (.ref fP)) :
    FnOk P w K mg base CX0 (k + 2) f fd ["_law_bag_here", "_law_things"] spSome := by
  have GP : FnOk P w K mg base CX0 (k + 1) fP fdP ["_law_bag_here", "_law_many"] spPick := ok_pick FP T
  refine F.ok scSome (fun vs H Q E h => ?_) (fun cdv A outer s H vs Q E hr h => ?_)
  · obtain ⟨b, g, t, n, xs, rfl, _⟩ := h
    rfl
  · obtain ⟨b, g, t, n, xs, rfl, B, hn, ht, ntb, ntg, h0, h1, q⟩ := h
    refine ⟨_, pss_one (ps_ret (pe_ix ix_list (pv 1) (pe_call GP hr rfl gP FP.kp bP .nil pass0 (pa_cons (pv 0) (pa_cons (pe_callB call_len_seq (by rfl) T.len PySem.boot_len (pa_cons (pv 1) pa_nil)) pa_nil))) (fun _ _ => rfl))), ?_⟩
    refine ⟨_, rfl, _, rfl, _, rfl, t, _, rfl, .inl (SqL.of ht), b, g, n, (xs.length : Int), rfl, B, hn, by omega, ?_, fun r H' r0 r1 B' kb => ?_⟩
    · exact Int.lt_of_le_of_lt (show (xs.length : Int) ≤ 1000 by omega) (by decide)
    · obtain ⟨j, rfl⟩ : ∃ j : Nat, r = (j : Int) := ⟨r.toNat, by omega⟩
      have hj : j < xs.length := by omega
      have hv : xs[j]? = some xs[j] := List.getElem?_eq_getElem hj
      refine ⟨t, xs, (j : Int), xs[j], rfl, rfl, SqL.of (kb t _ ht ntb ntg), atI_nat hv, ?_⟩
      exact q j _ H' hv B' kb
/-! ### the bag is made -/
theorem cut63 {xs : List V} (h : xs.length ≤ 63) : cutV xs none (some 63) = xs := by
  unfold cutV
  rw [show HT.sIx xs.length xs.length (some 63) = min 63 xs.length from HT.sIx_nat xs.length xs.length 63, HT.sIx_none, Nat.sub_zero, List.drop_zero]
  exact List.take_of_length_le (by omega)
theorem same_upd {H : Hp} {p : Addr} {o : HO} (h : H p = none) : Same H (upd H p o) := fun b x e => by
  rw [upd_ne (ne_of_none e h)]
  exact e
theorem ints_at {ns : List Int} {i : Nat} {y : V} (h : (ns.map V.int)[i]? = some y) : ∃ z, ns[i]? = some z ∧ y = V.int z := by
  rw [List.getElem?_map] at h
  cases e : ns[i]? with
  | none =>
    rw [e] at h
    cases h
  | some z =>
    rw [e] at h
    exact ⟨z, rfl, (Option.some.inj h).symm⟩
def spBag (K : PySem.W.Frag) : Sp := fun vs H Q _ => ∃ (a : Addr) (ns : List Int), vs = [.ref a] ∧ SqL K H a (ns.map V.int) ∧ ns.length ≤ 63 ∧
  ∀ (b g : Addr) (H' : Hp), Same H H' → H b = none → H g = none → BagAt H' b g 1 → Q (.ref b) H'
theorem scBag : FnScope ["_law_script", "_law_seed", "_law_cell", "_law_great", "_law_always"] ["_law_script"] (defScope sBag) := ⟨rfl, rfl, rfl, by decide +kernel, rfl, by decide +kernel, by decide +kernel⟩
theorem ok_bag {f : Addr} {fd : FuncData} {k : Nat} (F : Fun K "_law_bag" "_law_bag" sBag f fd) (T : BltT mg) : FnOk P w K mg base CX0 (k + 1) f fd ["_law_script"] (spBag K) := by
  refine F.ok scBag (fun vs H Q E h => ?_) (fun cdv A outer s H vs Q E hr h => ?_)
  · obtain ⟨a, ns, rfl, _⟩ := h
    rfl
  · obtain ⟨a, ns, rfl, hS, hlen, q⟩ := h
    refine ⟨_, pss_cons (ps_set (i := 1) scBag.nd rfl (.inl rfl) (pe_op op_add pe_int (pe_callB call_len_seq (by rfl) T.len PySem.boot_len (pa_cons (pv 0) pa_nil))))
      (pss_cons (ps_for PassesOwn.never rfl (pi_list (pe_slice sl_list (pv 0) po_none (po_some pe_int))) (pg_name (i := 2) scBag.nd rfl (Or.inl rfl))
        (pss_one (ps_set (i := 1) scBag.nd rfl (.inl rfl) (pe_op op_mod (pe_callTy call_int1 (by rfl) T.int (by decide +kernel) (pa_cons (pe_op op_add (pe_op op_add (pe_op op_mul (pv 1) pe_int) (pe_op op_mod (pe_callTy call_int1 (by rfl) T.int (by decide +kernel) (pa_cons (pv 2) pa_nil)) pe_int)) pe_int) pa_nil)) pe_int))))
      (pss_cons (ps_setLc (i := 3) (own := [("_law_cell", 2)]) (g := gName 2) (by rfl) scBag.nd rfl rfl (sw_true rfl rfl rfl (by decide +kernel)) (pi_list (pe_slice sl_list (pv 0) po_none (po_some pe_int)))
          (blkOk_by (N := ["_law_script", "_law_seed", "_law_cell", "_law_great", "_law_always"]) (sc := defScope sBag) (by decide +kernel)) (fun _ _ _ _ _ => pg_name (i := 2) scBag.nd rfl (Or.inl rfl))
          (fun _ _ _ _ _ => pts_one (pt_cmpR op_ge (pe_callB call_abs (by rfl) T.abs (by decide +kernel) (pa_cons (pe_callTy call_int1 (by rfl) T.int (by decide +kernel) (pa_cons (pv 2) pa_nil)) pa_nil)) (pe_op op_pow pe_int pe_int) (nomark _)))
          (fun _ _ _ _ _ => pe_callB call_abs (by rfl) T.abs (by decide +kernel) (pa_cons (pe_callTy call_int1 (by rfl) T.int (by decide +kernel) (pa_cons (pv 2) pa_nil)) pa_nil)))
      (pss_cons (ps_set (i := 4) scBag.nd rfl (.inl rfl) pe_non)
      (pss_cons (ps_if (PW.pt (pw_and (pt_cmpR op_lt (pe_callB call_len_seq (by rfl) T.len PySem.boot_len (pa_cons (pv 0) pa_nil)) pe_int (nomark _)) (pw_and1 (pt_cmpR op_eq (pe_callB call_len_seq (by rfl) T.len PySem.boot_len (pa_cons (pv 3) pa_nil)) pe_int (nomark _)))))
        (pss_one (ps_set (i := 4) scBag.nd rfl (.inl rfl) (pe_callB call_abs (by rfl) T.abs (by decide +kernel) (pa_cons (pe_callB (cr_sum rfl) (by rfl) T.sum (by decide +kernel) (pa_cons
          (pe_lc (own := [("_law_cell", 2)]) (g := gName 2) (tt := tYes) rfl scBag.nd (pi_list (pv 0)) (blkOk_by (N := ["_law_script", "_law_seed", "_law_cell", "_law_great", "_law_always"]) (sc := defScope sBag) (by decide +kernel)) (fun _ _ _ _ _ => pg_name (i := 2) scBag.nd rfl (Or.inl rfl)) (fun _ _ _ _ _ => pts_nil)
            (fun _ _ _ _ _ => pe_callTy call_int1 (by rfl) T.int (by decide +kernel) (pa_cons (pv 2) pa_nil))) pa_nil)) pa_nil)))) pss_nil)
      (pss_one (ps_ret (pe_lst (pa_cons (pv 1) (pa_cons pe_int (pa_cons (pv 3) (pa_cons (pv 4) pa_nil))))))))))), ?_⟩
    have e63 : cutV (ns.map V.int) none (some 63) = ns.map V.int := cut63 (by simpa using hlen)
    refine ⟨_, rfl, a, _, rfl, .inl hS, _, _, rfl, rfl, ?_⟩
    refine ⟨.ref a, rfl, 63, rfl, a, ns.map V.int, rfl, hS, fun c nc => ⟨c, rfl, ⟨_, SqL.of upd_same⟩, ?_⟩⟩
    rw [e63]
    obtain ⟨H1, eH1⟩ : ∃ H1, H1 = upd H c (.lst (ns.map V.int)) := ⟨_, rfl⟩
    have s1 : Same H H1 := by rw [eH1]; exact same_upd nc
    have hc1 : H1 c = some (.lst (ns.map V.int)) := by rw [eH1, upd_same]
    rw [← eH1]
    refine for_list (K := K) (a := c) (xs := ns.map V.int) (fun i σ H2 => ∃ (sd : Int) (y : Option V), σ = [some (.ref a), some (.int sd), y, none, none] ∧ 0 ≤ sd ∧ sd < 2147483648 ∧ H2 = H1)
      ⟨_, none, rfl, by rw [List.length_map]; omega, by rw [List.length_map]; omega, rfl⟩ (fun i σ H2 _ ⟨_, _, _, _, _, e⟩ => by rw [e]; exact SqL.of hc1) ?_ ?_
    · rintro i y σ H2 hi ⟨sd, y0, rfl, h0, h1, rfl⟩
      obtain ⟨z, hz, rfl⟩ := ints_at hi
      refine ⟨_, rfl, sd, 69621, rfl, rfl, .inl (by omega), _, rfl, .inl ⟨z, rfl, z, 1000003, rfl, rfl, (show (0 : Int) < 1000003 by decide), _, _, rfl, rfl, _, 7, rfl, rfl, .inl ⟨_, rfl, _, 2147483647, rfl, rfl, (show (0 : Int) < 2147483647 by decide), ?_⟩⟩⟩
      exact ⟨_, some (.int z), rfl, Int.emod_nonneg _ (by decide), Int.lt_trans (Int.emod_lt_of_pos _ (by decide)) (by decide), rfl⟩
    · rintro σ H2 ⟨sd, y0, rfl, h0, h1, rfl⟩
      refine ⟨.ref a, rfl, 63, rfl, a, ns.map V.int, rfl, s1.seq hS, fun c2 nc2 => ⟨c2, rfl, ⟨_, SqL.of upd_same⟩, ?_⟩⟩
      rw [e63]
      obtain ⟨H3, eH3⟩ : ∃ H3, H3 = upd H2 c2 (.lst (ns.map V.int)) := ⟨_, rfl⟩
      have s3 : Same H2 H3 := by rw [eH3]; exact same_upd nc2
      have hc3 : H3 c2 = some (.lst (ns.map V.int)) := by rw [eH3, upd_same]
      rw [← eH3]
      intro D hD
      refine lc_list (K := K) (a := c2) (xs := ns.map V.int) (fun i H4 => ∃ gs : List Int, H4 = upd H3 D (.lst (gs.map V.int)) ∧ (∀ z ∈ gs, 0 ≤ z) ∧ gs.length ≤ i)
        ⟨[], rfl, (fun _ h => nomatch h), Nat.le_refl _⟩ (fun i H4 _ ⟨gs, e, _, _⟩ => by rw [e]; exact (same_upd hD).seq (SqL.of hc3)) ?_ ?_
      · rintro i y H4 hi ⟨gs, rfl, hg, hl⟩
        obtain ⟨z, hz, rfl⟩ := ints_at hi
        have hi' : i < ns.length := (List.getElem?_eq_some_iff.mp hz).1
        refine ⟨rfl, _, rfl, .inl ⟨z, rfl, z, rfl, 10, 18, rfl, rfl, ⟨by decide, by decide, by decide⟩, _, _, rfl, rfl, _, rfl, ?_⟩⟩
        refine ite2 (fun _ => ?_) (fun _ => ⟨gs, rfl, hg, by omega⟩)
        refine ⟨_, rfl, .inl ⟨z, rfl, z, rfl, _, upd_same, ?_, gs ++ [if z < 0 then -z else z], ?_, ?_, ?_⟩⟩
        · rw [List.length_map, sizeLine_eq]; omega
        · rw [upd_upd, List.map_append]; rfl
        · intro x hx
          rcases List.mem_append.mp hx with hx | hx
          · exact hg x hx
          · obtain rfl := List.mem_singleton.mp hx
            split <;> omega
        · rw [List.length_append]; show gs.length + 1 ≤ i + 1; omega
      · rintro H4 ⟨gs, rfl, hg, hl⟩
        have s4 : Same H (upd H3 D (.lst (gs.map V.int))) := (s1.trans s3).trans (same_upd hD)
        have fD : H D = none := (s1.trans s3).free hD
        have fin : ∀ (al : V) (H5 : Hp), (al = .non ∨ ∃ a, al = .int a ∧ 0 ≤ a) → Same H H5 → H5 D = some (.lst (gs.map V.int)) → 4 ≤ sizeLine ∧ ∀ l, H5 l = none → Q (.ref l) (upd H5 l (.lst [.int sd, .int 1, .ref D, al])) := by
          intro al H5 hal s5 h5
          refine ⟨by decide, fun l hl => ?_⟩
          have nDl : D ≠ l := ne_of_none h5 hl
          refine q l D _ (s5.trans (same_upd hl)) (s5.free hl) fD ⟨nDl.symm, ⟨sd, 1, al, upd_same, h0, h1, by decide, by decide, hal⟩, gs, by rw [upd_ne nDl]; exact h5, hg⟩
        refine ⟨_, rfl, a, _, rfl, .inl (s4.seq hS), _, 2, rfl, rfl, _, rfl, ?_⟩
        refine ite2 (fun c1 => ?_) (fun _ => ?_)
        · refine ⟨_, rfl, D, _, rfl, .inl (SqL.of upd_same), rfl, _, rfl, ?_⟩
          refine ite2 (fun c2 => ?_) (fun _ => ?_)
          · refine ⟨.ref a, rfl, a, rfl, ⟨_, s4.seq hS⟩, fun D2 hD2 => ?_⟩
            refine lc_list (K := K) (a := a) (xs := ns.map V.int) (fun i H5 => H5 = upd (upd H3 D (.lst (gs.map V.int))) D2 (.lst ((ns.take i).map V.int))) rfl (fun i H5 _ e => by rw [e]; exact (same_upd hD2).seq (s4.seq hS)) ?_ ?_
            · rintro i y H5 hi rfl
              obtain ⟨z, hz, rfl⟩ := ints_at hi
              refine ⟨rfl, ?_⟩
              unfold tYes
              dsimp only
              rw [if_pos rfl]
              refine ⟨_, rfl, .inl ⟨z, rfl, _, upd_same, ?_, ?_⟩⟩
              · rw [List.length_map, List.length_take, sizeLine_eq]; omega
              · rw [upd_upd]
                have e : ns.take (i + 1) = ns.take i ++ [z] := by rw [List.take_add_one, hz]; rfl
                rw [e, List.map_append]; rfl
            · rintro H5 rfl
              refine ⟨D2, _, rfl, SqL.of upd_same, _, rfl, ?_⟩
              have nD : D ≠ D2 := ne_of_none upd_same hD2
              refine ⟨_, rfl, _, rfl, _, rfl, fin _ _ (.inr ⟨_, rfl, ?_⟩) (s4.trans (same_upd hD2)) (by rw [upd_ne nD]; exact upd_same)⟩
              split <;> omega
          · exact ⟨_, rfl, _, rfl, _, rfl, fin .non _ (.inl rfl) s4 upd_same⟩
        · exact ⟨_, rfl, _, rfl, _, rfl, fin .non _ (.inl rfl) s4 upd_same⟩
end
end Nm

/-! Plain data in the heap, kept under what changes elsewhere; the law's own sameness of data. -/
namespace Nm
open PySem PySem.Spec PyProof.Rows L2

/-! ### data whose places all lie in S -/
mutual
inductive DS (S : Addr → Prop) (H : Hp) : V → PyData → Prop
  | non : DS S H .non .none
  | bl (b : Bool) : DS S H (.bl b) (.bool b)
  | int (i : Int) : DS S H (.int i) (.int i)
  | str (x : Str) : DS S H (.str x) (.str x)
  | lst {a : Addr} {xs : List V} {ds : List PyData} : S a → H a = some (.lst xs) → DSs S H xs ds → DS S H (.ref a) (.list ds)
  | tup {a : Addr} {xs : List V} {ds : List PyData} : S a → H a = some (.tup xs) → DSs S H xs ds → DS S H (.ref a) (.tuple ds)
inductive DSs (S : Addr → Prop) (H : Hp) : List V → List PyData → Prop
  | nil : DSs S H [] []
  | cons {v : V} {vs : List V} {d : PyData} {ds : List PyData} : DS S H v d → DSs S H vs ds → DSs S H (v :: vs) (d :: ds)
end
section
variable {S S' : Addr → Prop} {H H' : Hp}
mutual
theorem DS.keep (k : ∀ a o, S a → H a = some o → S' a ∧ H' a = some o) : ∀ {v : V} {d : PyData}, DS S H v d → DS S' H' v d
  | _, _, .non => .non
  | _, _, .bl b => .bl b
  | _, _, .int i => .int i
  | _, _, .str x => .str x
  | _, _, .lst s h r => .lst (k _ _ s h).1 (k _ _ s h).2 (DSs.keep k r)
  | _, _, .tup s h r => .tup (k _ _ s h).1 (k _ _ s h).2 (DSs.keep k r)
theorem DSs.keep (k : ∀ a o, S a → H a = some o → S' a ∧ H' a = some o) : ∀ {vs : List V} {ds : List PyData}, DSs S H vs ds → DSs S' H' vs ds
  | _, _, .nil => .nil
  | _, _, .cons x r => .cons (DS.keep k x) (DSs.keep k r)
end
mutual
theorem DS.dp {K : PySem.W.Frag} : ∀ {v : V} {d : PyData}, DS S H v d → Dp K H v d
  | _, _, .non => .non
  | _, _, .bl b => .bl b
  | _, _, .int i => .int i
  | _, _, .str x => .str x
  | _, _, .lst s h r => .lst (SqL.of h) (DSs.dp r)
  | _, _, .tup s h r => .tup (SqT.of h) (DSs.dp r)
theorem DSs.dp {K : PySem.W.Frag} : ∀ {vs : List V} {ds : List PyData}, DSs S H vs ds → DpAll K H vs ds
  | _, _, .nil => .nil
  | _, _, .cons x r => .cons (DS.dp x) (DSs.dp r)
end
end
theorem Same.seqT {K : PySem.W.Frag} {H H' : Hp} {a : Addr} {xs : List V} (e : Same H H') (h : SqT K H a xs) : SqT K H' a xs := by
  rcases h with (h | ⟨o, h⟩) | h
  · exact .inl (.inl (e _ _ h))
  · exact .inl (.inr ⟨o, e _ _ h⟩)
  · exact .inr h
mutual
theorem Dp.same {K : PySem.W.Frag} {H H' : Hp} (e : Same H H') : ∀ {v : V} {d : PyData}, Dp K H v d → Dp K H' v d
  | _, _, .non => .non
  | _, _, .bl b => .bl b
  | _, _, .int i => .int i
  | _, _, .str x => .str x
  | _, _, .lst h r => .lst (e.seq h) (DpAll.same e r)
  | _, _, .tup h r => .tup (Nm.Same.seqT e h) (DpAll.same e r)
theorem DpAll.same {K : PySem.W.Frag} {H H' : Hp} (e : Same H H') : ∀ {vs : List V} {ds : List PyData}, DpAll K H vs ds → DpAll K H' vs ds
  | _, _, .nil => .nil
  | _, _, .cons x r => .cons (Dp.same e x) (DpAll.same e r)
end

/-! ### the law's own sameness -/
def isT : PyData → Bool | .tuple _ => true | _ => false
def isL : PyData → Bool | .list _ => true | _ => false
def isB : PyData → Bool | .bool _ => true | _ => false
mutual
def isD : PyData → PyData → Bool
  | .tuple xs, .tuple ys => isDs xs ys
  | .list xs, .list ys => isDs xs ys
  | _, .tuple _ => false
  | _, .list _ => false
  | x, y => (isB x == isB y) && PyData.eqv x y
def isDs : List PyData → List PyData → Bool
  | [], [] => true
  | x :: xs, y :: ys => isD x y && isDs xs ys
  | _, _ => false
end
theorem sh_all : ∀ {xs : List PyData}, PyData.canLayAll0 xs = true → PyData.depthAll xs ≤ 64 → ∀ d ∈ xs, SeqAt.shaped d = true
  | [], _, _, d, h => nomatch h
  | x :: xs, h1, h2, d, h => by
    have h1' : (PyData.canLay0 x && PyData.canLayAll0 xs) = true := h1
    obtain ⟨a, b⟩ := Bool.and_eq_true_iff.mp h1'
    have h2' : max (PyData.depth x) (PyData.depthAll xs) ≤ 64 := h2
    rcases List.mem_cons.mp h with rfl | h
    · unfold SeqAt.shaped
      rw [a, Bool.true_and]
      exact decide_eq_true (by omega)
    · exact sh_all b (by omega) d h
theorem sh_list {xs : List PyData} (h : SeqAt.shaped (.list xs) = true) : ∀ d ∈ xs, SeqAt.shaped d = true := by
  obtain ⟨a, b⟩ := Bool.and_eq_true_iff.mp h
  have b' : PyData.depthAll xs + 1 ≤ 64 := of_decide_eq_true b
  exact sh_all a (by omega)
theorem sh_tup {xs : List PyData} (h : SeqAt.shaped (.tuple xs) = true) : ∀ d ∈ xs, SeqAt.shaped d = true := by
  obtain ⟨a, b⟩ := Bool.and_eq_true_iff.mp h
  have b' : PyData.depthAll xs + 1 ≤ 64 := of_decide_eq_true b
  exact sh_all a (by omega)
mutual
theorem isD_refl : ∀ {d : PyData}, SeqAt.shaped d = true → isD d d = true
  | .none, _ => rfl
  | .bool b, _ => by cases b <;> rfl
  | .int i, _ => by show (true && (i == i)) = true; simp
  | .str x, _ => by show (true && (x == x)) = true; simp
  | .list xs, h => isDs_refl (xs := xs) (sh_list h)
  | .tuple xs, h => isDs_refl (xs := xs) (sh_tup h)
  | .dict _, h => absurd h (by simp [SeqAt.shaped, PyData.canLay0])
theorem isDs_refl : ∀ {xs : List PyData}, (∀ d ∈ xs, SeqAt.shaped d = true) → isDs xs xs = true
  | [], _ => rfl
  | x :: xs, h => by
    show (isD x x && isDs xs xs) = true
    rw [isD_refl (h x List.mem_cons_self), isDs_refl fun d hd => h d (List.mem_cons_of_mem _ hd)]
    rfl
end
def tyN : PyData → String
  | .none => "NoneType" | .bool _ => "bool" | .int _ => "int" | .str _ => "str" | .list _ => "list" | .tuple _ => "tuple" | .dict _ => "dict"
theorem dp_ty {K : PySem.W.Frag} {H : Hp} {x : V} {d : PyData} (h : Dp K H x d) : TyX K H x (.type (tyN d)) := by
  cases h with
  | non => exact .base .non
  | bl b => exact .base (.bl b)
  | int i => exact .base (.int i)
  | str x => exact .base (.str x)
  | lst h _ =>
    rcases h with (h | ⟨o, h⟩) | ⟨o, its, n, h1, h2, _⟩
    · exact .base (.lst h)
    · exact .base (.frz h)
    · exact .kList h1 h2
  | tup h _ =>
    rcases h with (h | ⟨o, h⟩) | ⟨o, its, n, h1, h2, _⟩
    · exact .base (.tup h)
    · exact .fTuple h
    · exact .kTuple h1 h2
theorem kit_t {K : PySem.W.Frag} (d : PyData) : PySem.W.kitOne K (.type (tyN d)) (.type "tuple") = some (isT d) := by
  cases d
  · exact kit_ty (show kitB "NoneType" "tuple" = some false by decide +kernel)
  · exact kit_ty (show kitB "bool" "tuple" = some false by decide +kernel)
  · exact kit_ty (show kitB "int" "tuple" = some false by decide +kernel)
  · exact kit_ty (show kitB "str" "tuple" = some false by decide +kernel)
  · exact kit_ty (show kitB "list" "tuple" = some false by decide +kernel)
  · exact kit_ty (show kitB "tuple" "tuple" = some true by decide +kernel)
  · exact kit_ty (show kitB "dict" "tuple" = some false by decide +kernel)
theorem kit_l {K : PySem.W.Frag} (d : PyData) : PySem.W.kitOne K (.type (tyN d)) (.type "list") = some (isL d) := by
  cases d
  · exact kit_ty (show kitB "NoneType" "list" = some false by decide +kernel)
  · exact kit_ty (show kitB "bool" "list" = some false by decide +kernel)
  · exact kit_ty (show kitB "int" "list" = some false by decide +kernel)
  · exact kit_ty (show kitB "str" "list" = some false by decide +kernel)
  · exact kit_ty (show kitB "list" "list" = some true by decide +kernel)
  · exact kit_ty (show kitB "tuple" "list" = some false by decide +kernel)
  · exact kit_ty (show kitB "dict" "list" = some false by decide +kernel)
theorem kit_b {K : PySem.W.Frag} (d : PyData) : PySem.W.kitOne K (.type (tyN d)) (.type "bool") = some (isB d) := by
  cases d
  · exact kit_ty (show kitB "NoneType" "bool" = some false by decide +kernel)
  · exact kit_ty (show kitB "bool" "bool" = some true by decide +kernel)
  · exact kit_ty (show kitB "int" "bool" = some false by decide +kernel)
  · exact kit_ty (show kitB "str" "bool" = some false by decide +kernel)
  · exact kit_ty (show kitB "list" "bool" = some false by decide +kernel)
  · exact kit_ty (show kitB "tuple" "bool" = some false by decide +kernel)
  · exact kit_ty (show kitB "dict" "bool" = some false by decide +kernel)
theorem kit_tl {K : PySem.W.Frag} (d : PyData) : PySem.W.kitAny K (.type (tyN d)) [.type "tuple", .type "list"] = some (isT d || isL d) := by
  refine kitAny_cons (kit_t d) (fun h => ?_) (fun h => by rw [h, Bool.true_or])
  rw [h, Bool.false_or]
  refine kitAny_cons (kit_l d) (fun h => ?_) (fun h => h)
  rw [h]
  exact kitAny_nil

/-! ### a comprehension over zip of two lists, of two tuples, of one length -/
theorem lc_zip {J : It} {xs ys : List V} {A : Hp → Prop} {g : TG} {tt : TT} {te : TE} {vs : List Nat} {σ : L2.St} {H1 : Hp} {D : Addr} {Qd : Hp → Prop} (hl : xs.length = ys.length)
    (go : ∀ i H, A H → i < xs.length → J.go i H) (yl : ∀ i H v H', A H → J.yld i H v H' → ∃ T x y, v = .ref T ∧ H T = none ∧ H' = upd H T (.tup [x, y]) ∧ xs[i]? = some x ∧ ys[i]? = some y) (st : ∀ H, A H → J.stop xs.length H)
    (Pv : Nat → Hp → Prop) (h0 : Pv 0 (upd H1 D (.lst []))) (hq : ∀ i H, Pv i H → A H)
    (hs : ∀ (i : Nat) (x y : V) (T : Addr) (H : Hp), xs[i]? = some x → ys[i]? = some y → Pv i H → H T = none → g (.ref T) (wipe σ vs) (upd H T (.tup [x, y])) fun σ2 H2 => wipe σ2 vs = wipe σ vs ∧ tt σ2 H2 fun b H3 =>
      if b = true then te σ2 H3 fun y H4 => ∃ acc, H4 D = some (.lst acc) ∧ acc.length < sizeLine ∧ Pv (i + 1) (upd H4 D (.lst (acc ++ [y]))) else Pv (i + 1) H3) (hd : ∀ H, Pv xs.length H → Qd H) :
    ∃ W : Nat → Nat → Hp → Prop, (∃ m, W 0 m (upd H1 D (.lst []))) ∧ ∀ i m H, W i m H →
      (J.stop i H ∧ Qd H) ∨ (J.go i H ∧ ∃ Nx : Hp → Prop, (∀ H', Nx H' → ∃ m', m' < m ∧ W (i + 1) m' H') ∧ ∀ x H', J.yld i H x H' → g x (wipe σ vs) H' fun σ2 H2 => wipe σ2 vs = wipe σ vs ∧ tt σ2 H2 fun b H3 =>
        if b = true then te σ2 H3 fun y H4 => ∃ acc, H4 D = some (.lst acc) ∧ acc.length < sizeLine ∧ Nx (upd H4 D (.lst (acc ++ [y]))) else Nx H3) := by
  refine ⟨fun i m H => m = xs.length - i ∧ i ≤ xs.length ∧ Pv i H, ⟨xs.length, rfl, Nat.zero_le _, h0⟩, ?_⟩
  rintro i m H ⟨rfl, hi, p⟩
  by_cases hlt : i < xs.length
  · refine .inr ⟨go i H (hq i H p) hlt, Pv (i + 1), fun H' p' => ⟨xs.length - (i + 1), by omega, rfl, hlt, p'⟩, fun v H' y => ?_⟩
    obtain ⟨T, x', y', rfl, hT, rfl, f1, f2⟩ := yl i H v H' (hq i H p) y
    exact hs i x' y' T H f1 f2 p hT
  · have e : i = xs.length := by omega
    subst e
    exact .inl ⟨st H (hq _ H p), hd H p⟩
/-! no sequence within is long -/
mutual
def smallD : PyData → Bool
  | .tuple xs => decide (xs.length ≤ 100000) && smallDs xs
  | .list xs => decide (xs.length ≤ 100000) && smallDs xs
  | _ => true
def smallDs : List PyData → Bool
  | [] => true
  | x :: xs => smallD x && smallDs xs
end
theorem smallDs_all : ∀ {xs : List PyData}, smallDs xs = true → ∀ d ∈ xs, smallD d = true
  | [], _, d, h => nomatch h
  | x :: xs, h1, d, h => by
    obtain ⟨a, b⟩ := Bool.and_eq_true_iff.mp (show (smallD x && smallDs xs) = true from h1)
    rcases List.mem_cons.mp h with rfl | h
    · exact a
    · exact smallDs_all b d h
theorem smallT {xs : List PyData} (h : smallD (.tuple xs) = true) : xs.length ≤ 100000 ∧ ∀ d ∈ xs, smallD d = true := by
  obtain ⟨a, b⟩ := Bool.and_eq_true_iff.mp (show (decide (xs.length ≤ 100000) && smallDs xs) = true from h)
  exact ⟨of_decide_eq_true a, smallDs_all b⟩
theorem smallL {xs : List PyData} (h : smallD (.list xs) = true) : xs.length ≤ 100000 ∧ ∀ d ∈ xs, smallD d = true := by
  obtain ⟨a, b⟩ := Bool.and_eq_true_iff.mp (show (decide (xs.length ≤ 100000) && smallDs xs) = true from h)
  exact ⟨of_decide_eq_true a, smallDs_all b⟩
theorem isD_flat {d e : PyData} (h : ¬ (isT e || isL e) = true) : isD d e = ((isB d == isB e) && PyData.eqv d e) := by
  cases d <;> cases e <;> first | rfl | exact absurd rfl h
theorem isD_ne {d e : PyData} (h : (isT e || isL e) = true) (n : isT d ≠ isT e ∨ isL d ≠ isL e) : isD d e = false := by
  cases d <;> cases e <;> first | rfl | exact absurd (show false = true from h) Bool.false_ne_true | (rcases n with n | n <;> exact absurd rfl n)
theorem isD_kinds {d e : PyData} (h : (isT e || isL e) = true) (h1 : isT d = isT e) (h2 : isL d = isL e) : (∃ xs ys, d = .tuple xs ∧ e = .tuple ys) ∨ ∃ xs ys, d = .list xs ∧ e = .list ys := by
  cases d <;> cases e <;> first
    | exact .inl ⟨_, _, rfl, rfl⟩ | exact .inr ⟨_, _, rfl, rfl⟩ | exact absurd (show false = true from h) Bool.false_ne_true
    | exact absurd (show false = true from h1) Bool.false_ne_true | exact absurd (show true = false from h1).symm Bool.false_ne_true
    | exact absurd (show false = true from h2) Bool.false_ne_true | exact absurd (show true = false from h2).symm Bool.false_ne_true
theorem isDs_zip : ∀ {xs ys : List PyData}, xs.length = ys.length → (List.zipWith isD xs ys).all id = isDs xs ys
  | [], [], _ => rfl
  | [], _ :: _, h => by cases h
  | _ :: _, [], h => by cases h
  | x :: xs, y :: ys, h => by
    show (isD x y && (List.zipWith isD xs ys).all id) = (isD x y && isDs xs ys)
    rw [isDs_zip (by simpa using h)]
theorem isDs_len : ∀ {xs ys : List PyData}, xs.length ≠ ys.length → isDs xs ys = false
  | [], [], h => absurd rfl h
  | [], _ :: _, _ => rfl
  | _ :: _, [], _ => rfl
  | x :: xs, y :: ys, h => by
    show (isD x y && isDs xs ys) = false
    rw [isDs_len (xs := xs) (ys := ys) (by simpa using h), Bool.and_false]
theorem dpAll_len {K : PySem.W.Frag} {H : Hp} : ∀ {xs : List V} {ds : List PyData}, DpAll K H xs ds → xs.length = ds.length
  | _, _, .nil => rfl
  | _, _, .cons _ r => by rw [List.length_cons, List.length_cons, dpAll_len r]
theorem dpAll_at {K : PySem.W.Frag} {H : Hp} : ∀ {xs : List V} {ds : List PyData} {i : Nat} {x : V}, DpAll K H xs ds → xs[i]? = some x → ∃ d, ds[i]? = some d ∧ Dp K H x d
  | _, _, _, _, .nil, h => by simp at h
  | _, _, 0, _, .cons r _, h => by
    obtain rfl := Option.some.inj h
    exact ⟨_, rfl, r⟩
  | _, _, i + 1, _, .cons _ r, h => by
    obtain ⟨d, h1, h2⟩ := dpAll_at (i := i) r (by simpa using h)
    exact ⟨d, by simpa using h1, h2⟩
theorem depth_at : ∀ {ds : List PyData} {i : Nat} {d : PyData}, ds[i]? = some d → d.depth ≤ PyData.depthAll ds
  | [], _, _, h => by simp at h
  | x :: r, 0, _, h => by
    obtain rfl := Option.some.inj h
    show _ ≤ max _ _
    omega
  | x :: r, i + 1, d, h => by
    have := depth_at (ds := r) (i := i) (d := d) (by simpa using h)
    show _ ≤ max _ _
    omega
end Nm

/-! The law's sameness of things, _law_is. -/
namespace Nm
open PySem PySem.Spec PyProof.Rows L2
abbrev sIs : Stmt := topS 24
structure IsT (mg : Str → Option Value) : Prop where
  isi : mg "isinstance" = none
  tup : mg "tuple" = none
  lst : mg "list" = none
  len : mg "len" = none
  all : mg "all" = none
  zip : mg "zip" = none
  bool : mg "bool" = none
section
variable {P : Program} {w : World} {K : PySem.W.Frag} {mg : Str → Option Value} {base : Heap}
def spIs (K : PySem.W.Frag) (n : Nat) : Sp := fun vs H Q _ => ∃ x y : V, vs = [x, y] ∧
  ((∃ d e : PyData, Dp K H x d ∧ Dp K H y e ∧ SeqAt.shaped d = true ∧ SeqAt.shaped e = true ∧ smallD e = true ∧ e.depth < n ∧ ∀ H', Same H H' → Q (.bl (isD d e)) H') ∨
   (0 < n ∧ ∃ (a : Addr) (kvs : List (Key × V)), x = .ref a ∧ y = .ref a ∧ H a = some (.dK kvs) ∧ (kvs.map (·.1)).Nodup ∧ (∀ p ∈ kvs, flatB p.2 = true) ∧ ∀ H', Same H H' → Q (.bl true) H'))
theorem scIs : FnScope ["_law_thing", "_law_due_here", "_law_one", "_law_other"] ["_law_thing", "_law_due_here"] (defScope sIs) := ⟨rfl, rfl, rfl, by decide +kernel, rfl, by decide +kernel, by decide +kernel⟩
theorem ok_is {f : Addr} {fd : FuncData} (F : Fun K "_law_is" "_law_is" sIs f fd) (T : IsT mg) (bF : Binds K fd ["_law_thing", "_law_due_here"] []) (gF : mg "_law_is" = some (.ref f)) : ∀ n, FnOk P w K mg base CX0 n f fd ["_law_thing", "_law_due_here"] (spIs K n) := by
  intro n
  induction n with
  | zero =>
    refine ⟨fun vs H Q E h => ?_, fun A outer s H args us vs Q E hr he hb hv h => ?_⟩
    · obtain ⟨x, y, rfl, _⟩ := h
      rfl
    · obtain ⟨x, y, rfl, ⟨d, e, _, _, _, _, _, z, _⟩ | ⟨z, _⟩⟩ := h
      · exact absurd z (Nat.not_lt_zero _)
      · exact absurd z (Nat.lt_irrefl _)
  | succ n ih =>
    refine F.ok scIs (fun vs H Q E h => ?_) (fun cdv A outer s H vs Q E hr h => ?_)
    · obtain ⟨x, y, rfl, _⟩ := h
      rfl
    · obtain ⟨x, y, rfl, h⟩ := h
      refine ⟨_, pss_cons (ps_if (pt_val (pe_callB call_isiT (by rfl) T.isi (by decide +kernel) (pa_cons (pv 1) (pa_cons (pe_tup (pa_cons (pe_bltn (v := .ty "tuple") (by rfl) T.tup (by decide +kernel) rfl) (pa_cons (pe_bltn (v := .ty "list") (by rfl) T.lst (by decide +kernel) rfl) pa_nil))) pa_nil))))
          (pss_cons (ps_if (PW.pt (pw_or (pt_cmpR op_ne (pe_callB call_isi (by rfl) T.isi (by decide +kernel) (pa_cons (pv 0) (pa_cons (pe_bltn (v := .ty "tuple") (by rfl) T.tup (by decide +kernel) rfl) pa_nil))) (pe_callB call_isi (by rfl) T.isi (by decide +kernel) (pa_cons (pv 1) (pa_cons (pe_bltn (v := .ty "tuple") (by rfl) T.tup (by decide +kernel) rfl) pa_nil))) (nomark _))
              (pw_or1 (pt_cmpR op_ne (pe_callB call_isi (by rfl) T.isi (by decide +kernel) (pa_cons (pv 0) (pa_cons (pe_bltn (v := .ty "list") (by rfl) T.lst (by decide +kernel) rfl) pa_nil))) (pe_callB call_isi (by rfl) T.isi (by decide +kernel) (pa_cons (pv 1) (pa_cons (pe_bltn (v := .ty "list") (by rfl) T.lst (by decide +kernel) rfl) pa_nil))) (nomark _)))))
            (pss_one (ps_ret pe_bl)) pss_nil)
          (pss_one (ps_ret (pe_and (pe_cmpR op_eq (pe_callB call_len_seq (by rfl) T.len PySem.boot_len (pa_cons (pv 0) pa_nil)) (pe_callB call_len_seq (by rfl) T.len PySem.boot_len (pa_cons (pv 1) pa_nil)) (nomark _))
            (pe_one (pe_callB (cr_all rfl) (by rfl) T.all (by decide +kernel) (pa_cons
              (pe_lc (own := [("_law_one", 2), ("_law_other", 3)]) (g := gTup K 2 (gCons (gName 2) (gCons (gName 3) gNil))) (tt := tYes) rfl scIs.nd (RZ.pi_zipA (by rfl) T.zip (pa_cons (pv 0) (pa_cons (pv 1) pa_nil))) (blkOk_by (N := ["_law_thing", "_law_due_here", "_law_one", "_law_other"]) (sc := defScope sIs) (by decide +kernel))
                (fun _ _ _ _ _ => by
                  refine pg_tup rfl (pgs_cons ?b (pgs_cons ?c pgs_nil))
                  case b => exact pg_name (i := 2) scIs.nd rfl (Or.inl rfl)
                  case c => exact pg_name (i := 3) scIs.nd rfl (Or.inl rfl)) (fun _ _ _ _ _ => pts_nil)
                (fun _ _ _ _ _ => pe_call ih (by exact hr) (by rfl) gF F.kp bF .nil pass0 (pa_cons (pv 2) (pa_cons (pv 3) pa_nil)))) pa_nil))))))) pss_nil)
        (pss_one (ps_ret (pe_and (pe_cmpR op_eq (pe_callB call_isi (by rfl) T.isi (by decide +kernel) (pa_cons (pv 0) (pa_cons (pe_bltn (v := .ty "bool") (by rfl) T.bool (by decide +kernel) rfl) pa_nil))) (pe_callB call_isi (by rfl) T.isi (by decide +kernel) (pa_cons (pv 1) (pa_cons (pe_bltn (v := .ty "bool") (by rfl) T.bool (by decide +kernel) rfl) pa_nil))) (nomark _))
          (pe_one (pe_cmpR (OpR.or (op_eqD hr.units) (op_eq_dict (Nat.lt_of_succ_lt (hu_of hr)))) (pv 0) (pv 1) (nomark _)))))), ?_⟩
      rcases h with ⟨d, e, hd, he, sd, se, sm0, hn, q⟩ | ⟨_, a, kvs, rfl, rfl, ha, nd, fl, q⟩
      · refine ⟨_, rfl, (by show 2 ≤ sizeLine; decide), fun tp htp => ?_⟩
        have s1 : Same H (upd H tp (.tup [.ty "tuple", .ty "list"])) := same_upd htp
        refine ⟨_, tp, _, _, _, _, rfl, upd_same, .cons (.ty "tuple") (.cons (.ty "list") .nil), dp_ty (Dp.same s1 he), kit_tl e, _, rfl, ?_⟩
        obtain ⟨H1, eH1⟩ : ∃ H1, H1 = upd H tp (.tup [.ty "tuple", .ty "list"]) := ⟨_, rfl⟩
        rw [← eH1] at s1 ⊢
        have hd1 := Dp.same s1 hd
        have he1 := Dp.same s1 he
        refine ite2 (fun c => ?_) (fun c => ?_)
        · refine ⟨_, rfl, _, _, _, _, _, rfl, .ty "tuple", dp_ty hd1, kit_t d, _, rfl, _, _, _, _, _, rfl, .ty "tuple", dp_ty he1, kit_t e, rfl, _, rfl, ?_⟩
          dsimp only
          refine ite2 (fun n1 => ?_) (fun n1 => ?_)
          · have e1 : isD d e = false := isD_ne c (.inl fun z => by rw [z] at n1; simp at n1)
            rw [if_pos rfl]
            show Q (.bl false) H1
            rw [← e1]
            exact q H1 s1
          · have k1 : isT d = isT e := by simpa using n1
            refine ⟨_, rfl, _, _, _, _, _, rfl, .ty "list", dp_ty hd1, kit_l d, _, rfl, _, _, _, _, _, rfl, .ty "list", dp_ty he1, kit_l e, rfl, _, rfl, ?_⟩
            refine ite2 (fun n2 => ?_) (fun n2 => ?_)
            · have e1 : isD d e = false := isD_ne c (.inr fun z => by rw [z] at n2; simp at n2)
              show Q (.bl false) H1
              rw [← e1]
              exact q H1 s1
            · have k2 : isL d = isL e := by simpa using n2
              rcases isD_kinds c k1 k2 with ⟨ds, es, rfl, rfl⟩ | ⟨ds, es, rfl, rfl⟩
              · cases hd1 with
                | @tup a xs _ hxa ax =>
                cases he1 with
                | @tup b ys _ hyb ay =>
                have lx := dpAll_len ax
                have ly := dpAll_len ay
                refine ⟨_, rfl, a, xs, rfl, .inr hxa, _, rfl, b, ys, rfl, .inr hyb, rfl, _, rfl, ?_⟩
                refine ite2 (fun l => ?_) (fun l => ?_)
                · have hl : xs.length = ys.length := by
                    have z := of_decide_eq_true l
                    injection z with z
                    omega
                  refine ⟨_, rfl, _, rfl, a, b, xs, ys, rfl, .inr ⟨hxa, hyb, fun D hD => ?_⟩⟩
                  refine lc_zip (J := RZ.ItzT K a b) (A := fun H2 => Same H1 H2) hl
                    (fun i H2 sm hi => ⟨xs, ys, xs[i], ys[i], Nm.Same.seqT sm hxa, Nm.Same.seqT sm hyb, List.getElem?_eq_getElem hi, List.getElem?_eq_getElem (by omega)⟩)
                    (fun i H2 v H' sm y => by
                      obtain ⟨T, x', y', rfl, hT, rfl, f1, f2⟩ := y
                      exact ⟨T, x', y', rfl, hT, rfl, f1 xs (Nm.Same.seqT sm hxa), f2 ys (Nm.Same.seqT sm hyb)⟩)
                    (fun H2 sm => ⟨xs, ys, Nm.Same.seqT sm hxa, Nm.Same.seqT sm hyb, Or.inl (Nat.le_refl _)⟩)
                    (fun i H2 => Same H1 H2 ∧ H2 D = some (.lst (((List.zipWith isD ds es).take i).map V.bl))) ⟨same_upd hD, by rw [upd_same]; rfl⟩ (fun i H2 h => h.1) ?_ ?_
                  · rintro i x' y' T H2 hx' hy' ⟨sm, h2⟩ hT
                    obtain ⟨d', hd', dd'⟩ := dpAll_at ax hx'
                    obtain ⟨e', he', de'⟩ := dpAll_at ay hy'
                    have sm3 : Same H1 (upd H2 T (.tup [x', y'])) := sm.trans (same_upd hT)
                    have nDT : D ≠ T := ne_of_none h2 hT
                    have dep : e'.depth < n := by
                      have z := depth_at he'
                      have z2 : PyData.depthAll es + 1 < n + 1 := hn
                      omega
                    refine ⟨T, [x', y'], rfl, .inl (.inl upd_same), rfl, x', [y'], rfl, y', [], rfl, rfl, rfl, ?_⟩
                    unfold tYes
                    dsimp only
                    rw [if_pos rfl]
                    refine ⟨_, rfl, _, rfl, x', y', rfl, .inl ⟨d', e', Dp.same sm3 dd', Dp.same sm3 de', sh_tup sd d' (List.mem_of_getElem? hd'), sh_tup se e' (List.mem_of_getElem? he'), (smallT sm0).2 e' (List.mem_of_getElem? he'), dep, fun H4 s4 => ?_⟩⟩
                    have h4 : H4 D = some (.lst (((List.zipWith isD ds es).take i).map V.bl)) := s4 _ _ (by rw [upd_ne nDT]; exact h2)
                    refine ⟨_, h4, ?_, fun p o hp => ?_, ?_⟩
                    · rw [List.length_map, List.length_take]
                      have z : i < xs.length := (List.getElem?_eq_some_iff.mp hx').1
                      have z3 := (smallT sm0).1
                      rw [sizeLine_eq]
                      omega
                    · rw [upd_ne (ne_of_none hp hD)]
                      exact s4 _ _ (sm3 _ _ hp)
                    · have hz : (List.zipWith isD ds es)[i]? = some (isD d' e') := by rw [List.getElem?_zipWith, hd', he']
                      rw [upd_same, List.take_add_one, hz, List.map_append]
                      rfl
                  · rintro H2 ⟨sm, h2⟩
                    refine ⟨D, _, rfl, SqL.of h2, ?_⟩
                    have e1 : ((List.zipWith isD ds es).take xs.length).all id = isDs ds es := by
                      rw [List.take_of_length_le (by rw [List.length_zipWith]; omega)]
                      exact isDs_zip (by omega)
                    rw [e1]
                    exact q H2 (s1.trans sm)
                · have e1 : isDs ds es = false := isDs_len fun z => by
                    have z2 : xs.length = ys.length := by omega
                    rw [z2] at l
                    simp at l
                  show Q (.bl false) H1
                  rw [← e1]
                  exact q H1 s1
              · cases hd1 with
                | @lst a xs _ hxa ax =>
                cases he1 with
                | @lst b ys _ hyb ay =>
                have lx := dpAll_len ax
                have ly := dpAll_len ay
                refine ⟨_, rfl, a, xs, rfl, .inl hxa, _, rfl, b, ys, rfl, .inl hyb, rfl, _, rfl, ?_⟩
                refine ite2 (fun l => ?_) (fun l => ?_)
                · have hl : xs.length = ys.length := by
                    have z := of_decide_eq_true l
                    injection z with z
                    omega
                  refine ⟨_, rfl, _, rfl, a, b, xs, ys, rfl, .inl ⟨hxa, hyb, fun D hD => ?_⟩⟩
                  refine lc_zip (J := Itz K a b) (A := fun H2 => Same H1 H2) hl
                    (fun i H2 sm hi => ⟨xs, ys, xs[i], ys[i], sm.seq hxa, sm.seq hyb, List.getElem?_eq_getElem hi, List.getElem?_eq_getElem (by omega)⟩)
                    (fun i H2 v H' sm y => by
                      obtain ⟨T, x', y', rfl, hT, rfl, f1, f2⟩ := y
                      exact ⟨T, x', y', rfl, hT, rfl, f1 xs (sm.seq hxa), f2 ys (sm.seq hyb)⟩)
                    (fun H2 sm => ⟨xs, ys, sm.seq hxa, sm.seq hyb, Or.inl (Nat.le_refl _)⟩)
                    (fun i H2 => Same H1 H2 ∧ H2 D = some (.lst (((List.zipWith isD ds es).take i).map V.bl))) ⟨same_upd hD, by rw [upd_same]; rfl⟩ (fun i H2 h => h.1) ?_ ?_
                  · rintro i x' y' T H2 hx' hy' ⟨sm, h2⟩ hT
                    obtain ⟨d', hd', dd'⟩ := dpAll_at ax hx'
                    obtain ⟨e', he', de'⟩ := dpAll_at ay hy'
                    have sm3 : Same H1 (upd H2 T (.tup [x', y'])) := sm.trans (same_upd hT)
                    have nDT : D ≠ T := ne_of_none h2 hT
                    have dep : e'.depth < n := by
                      have z := depth_at he'
                      have z2 : PyData.depthAll es + 1 < n + 1 := hn
                      omega
                    refine ⟨T, [x', y'], rfl, .inl (.inl upd_same), rfl, x', [y'], rfl, y', [], rfl, rfl, rfl, ?_⟩
                    unfold tYes
                    dsimp only
                    rw [if_pos rfl]
                    refine ⟨_, rfl, _, rfl, x', y', rfl, .inl ⟨d', e', Dp.same sm3 dd', Dp.same sm3 de', sh_list sd d' (List.mem_of_getElem? hd'), sh_list se e' (List.mem_of_getElem? he'), (smallL sm0).2 e' (List.mem_of_getElem? he'), dep, fun H4 s4 => ?_⟩⟩
                    have h4 : H4 D = some (.lst (((List.zipWith isD ds es).take i).map V.bl)) := s4 _ _ (by rw [upd_ne nDT]; exact h2)
                    refine ⟨_, h4, ?_, fun p o hp => ?_, ?_⟩
                    · rw [List.length_map, List.length_take]
                      have z : i < xs.length := (List.getElem?_eq_some_iff.mp hx').1
                      have z3 := (smallL sm0).1
                      rw [sizeLine_eq]
                      omega
                    · rw [upd_ne (ne_of_none hp hD)]
                      exact s4 _ _ (sm3 _ _ hp)
                    · have hz : (List.zipWith isD ds es)[i]? = some (isD d' e') := by rw [List.getElem?_zipWith, hd', he']
                      rw [upd_same, List.take_add_one, hz, List.map_append]
                      rfl
                  · rintro H2 ⟨sm, h2⟩
                    refine ⟨D, _, rfl, SqL.of h2, ?_⟩
                    have e1 : ((List.zipWith isD ds es).take xs.length).all id = isDs ds es := by
                      rw [List.take_of_length_le (by rw [List.length_zipWith]; omega)]
                      exact isDs_zip (by omega)
                    rw [e1]
                    exact q H2 (s1.trans sm)
                · have e1 : isDs ds es = false := isDs_len fun z => by
                    have z2 : xs.length = ys.length := by omega
                    rw [z2] at l
                    simp at l
                  show Q (.bl false) H1
                  rw [← e1]
                  exact q H1 s1
        · refine ⟨_, rfl, _, _, _, _, _, rfl, .ty "bool", dp_ty hd1, kit_b d, _, rfl, _, _, _, _, _, rfl, .ty "bool", dp_ty he1, kit_b e, rfl, _, rfl, ?_⟩
          have e1 := isD_flat (d := d) c
          refine ite2 (fun n1 => ?_) (fun n1 => ?_)
          · have n2 : isB d = isB e := by simpa using n1
            rw [n2, beq_self_eq_true, Bool.true_and] at e1
            refine ⟨_, rfl, _, rfl, .inl ⟨d, e, hd1, he1, sd, se, ?_⟩⟩
            show Q (.bl (PyData.eqv d e)) H1
            rw [← e1]
            exact q H1 s1
          · have n2 : (isB d == isB e) = false := by simpa using n1
            rw [n2, Bool.false_and] at e1
            show Q (.bl false) H1
            rw [← e1]
            exact q H1 s1
      · refine ⟨_, rfl, (by show 2 ≤ sizeLine; decide), fun tp htp => ?_⟩
        have s1 : Same H (upd H tp (.tup [.ty "tuple", .ty "list"])) := same_upd htp
        have ha1 := s1 _ _ ha
        have ty := TyX.base (K := K) (TyOf.dK ha1)
        have k0 : PySem.W.kitAny K (.type "dict") [.type "tuple", .type "list"] = some false :=
          kitAny_cons (kit_ty (show kitB "dict" "tuple" = some false by decide +kernel)) (fun _ => kitAny_cons (kit_ty (show kitB "dict" "list" = some false by decide +kernel)) (fun _ => kitAny_nil) (fun h => h)) (fun h => h)
        have k1 : PySem.W.kitOne K (.type "dict") (.type "bool") = some false := kit_ty (show kitB "dict" "bool" = some false by decide +kernel)
        refine ⟨_, tp, _, _, _, _, rfl, upd_same, .cons (.ty "tuple") (.cons (.ty "list") .nil), ty, k0, _, rfl, ?_⟩
        refine iteF ?_
        refine ⟨_, rfl, _, _, _, _, _, rfl, .ty "bool", ty, k1, _, rfl, _, _, _, _, _, rfl, .ty "bool", ty, k1, rfl, _, rfl, ?_⟩
        refine ite2 (fun _ => ?_) (fun z => absurd (decide_eq_true rfl) z)
        exact ⟨_, rfl, _, rfl, .inr ⟨a, a, kvs, rfl, rfl, ha1, ha1, nd, fl, q _ s1⟩⟩
end
end Nm

/-! _law_deep: a thing of lists and tuples within one another. -/
namespace Nm
open PySem PySem.Spec PyProof.Rows L2
abbrev sDeep : Stmt := topS 26
def deepD : Nat → PyData
  | 0 => .tuple []
  | n + 1 => .list [.tuple [deepD n]]
section
variable {P : Program} {w : World} {K : PySem.W.Frag} {mg : Str → Option Value} {base : Heap}
def spDeep : Sp := fun vs H Q _ => vs = [] ∧ ∀ (v : V) (H' : Hp), Same H H' → DS (fun a => H a = none) H' v (deepD 11) → Q v H'
theorem scDeep : FnScope ["_law_thing", "_law_turn"] [] (defScope sDeep) := ⟨rfl, rfl, rfl, by decide +kernel, rfl, by decide +kernel, by decide +kernel⟩
theorem ok_deep {f : Addr} {fd : FuncData} {k : Nat} (F : Fun K "_law_deep" "_law_deep" sDeep f fd) (mr : mg "range" = none) : FnOk P w K mg base CX0 (k + 1) f fd [] spDeep := by
  refine F.ok scDeep (fun vs H Q E h => ?_) (fun cdv A outer s H vs Q E hr h => ?_)
  · obtain ⟨rfl, _⟩ := h
    rfl
  · obtain ⟨rfl, q⟩ := h
    refine ⟨_, pss_cons (ps_set (i := 0) scDeep.nd rfl (.inl rfl) (pe_tup pa_nil))
      (pss_cons (ps_for PassesOwn.never rfl (pi_range1 rfl mr (pa_cons pe_int pa_nil)) (pg_name (i := 1) scDeep.nd rfl (Or.inl rfl))
        (pss_one (ps_set (i := 0) scDeep.nd rfl (.inl rfl) (pe_lst (pa_cons (pe_tup (pa_cons (pv 0) pa_nil)) pa_nil)))))
      (pss_one (ps_ret (pv 0)))), ?_⟩
    refine ⟨Nat.zero_le _, fun t0 h0 => ?_⟩
    refine ⟨11, rfl, by decide, by decide, for_range (n := 11) (fun i σ H2 => ∃ (v : V) (y : Option V), σ = [some v, y] ∧ Same H H2 ∧ DS (fun a => H a = none) H2 v (deepD i)) ⟨_, none, rfl, same_upd h0, .tup h0 upd_same .nil⟩ ?_ ?_⟩
    · rintro i σ H2 hi ⟨v, y, rfl, sm, d⟩
      refine ⟨_, rfl, (by show 1 ≤ sizeLine; decide), fun t ht => ⟨(by show 1 ≤ sizeLine; decide), fun l hl => ?_⟩⟩
      have s1 : Same H2 (upd H2 t (.tup [v])) := same_upd ht
      have s2 : Same (upd H2 t (.tup [v])) (upd (upd H2 t (.tup [v])) l (.lst [.ref t])) := same_upd hl
      have nt : t ≠ l := ne_of_none upd_same hl
      refine ⟨.ref l, _, rfl, (sm.trans s1).trans s2, .lst ((sm.trans s1).free hl) upd_same (.cons (.tup (sm.free ht) (by rw [upd_ne nt]; exact upd_same) (.cons (DS.keep (fun a o sa ha => ⟨sa, s2 _ _ (s1 _ _ ha)⟩) d) .nil)) .nil)⟩
    · rintro σ H2 ⟨v, y, rfl, sm, d⟩
      exact ⟨v, rfl, q v H2 sm d⟩
end
end Nm

/-! The law's numbers: _law_common, _law_frac, _law_less, _law_q, _law_c. -/
namespace Nm
open PySem PySem.Spec PyProof.Rows L2
abbrev sCommon : Stmt := topS 27
abbrev sFrac : Stmt := topS 28
abbrev sLess : Stmt := topS 29
abbrev sQ : Stmt := topS 35
abbrev sC : Stmt := topS 36
section
variable {P : Program} {w : World} {K : PySem.W.Frag} {mg : Str → Option Value} {base : Heap}
/-! ### the greatest common divisor -/
def spCommon : Sp := fun vs H Q _ => ∃ a b : Int, vs = [.int a, .int b] ∧ Q (.int (Int.gcd a b)) H
theorem gcd_turn {a b : Int} (ha : 0 ≤ a) (hb : 0 < b) : Int.gcd b (a % b) = Int.gcd a b := by
  rw [Int.gcd_comm a b]
  obtain ⟨x, rfl⟩ := Int.eq_ofNat_of_zero_le ha
  obtain ⟨y, rfl⟩ := Int.eq_ofNat_of_zero_le (Int.le_of_lt hb)
  rw [← Int.natCast_emod]
  show Nat.gcd y (x % y) = Nat.gcd y x
  rw [Nat.gcd_comm y (x % y), Nat.gcd_comm y x]
  rw [← Nat.gcd_rec y x, Nat.gcd_comm]
theorem scCommon : FnScope ["_law_one", "_law_other"] ["_law_one", "_law_other"] (defScope sCommon) := ⟨rfl, rfl, rfl, by decide +kernel, rfl, by decide +kernel, by decide +kernel⟩
theorem ok_common {f : Addr} {fd : FuncData} {k : Nat} (F : Fun K "_law_common" "_law_common" sCommon f fd) (T : BltT mg) : FnOk P w K mg base CX0 (k + 1) f fd ["_law_one", "_law_other"] spCommon := by
  refine F.ok scCommon (fun vs H Q E h => ?_) (fun cdv A outer s H vs Q E hr h => ?_)
  · obtain ⟨a, b, rfl, _⟩ := h
    rfl
  · obtain ⟨a, b, rfl, q⟩ := h
    refine ⟨_, pss_cons (ps_par (i := 0) (j := 1) (by rfl) scCommon.nd rfl rfl (by decide) rfl rfl (pa_cons (pe_callB call_abs (by rfl) T.abs (by decide +kernel) (pa_cons (pv 0) pa_nil)) (pa_cons (pe_callB call_abs (by rfl) T.abs (by decide +kernel) (pa_cons (pv 1) pa_nil)) pa_nil)) (by rfl))
      (pss_cons (ps_while PassesOwn.never (pt_cmpR op_gt (pv 1) pe_int (nomark _))
        (pss_one (ps_par (i := 0) (j := 1) (by rfl) scCommon.nd rfl rfl (by decide) rfl rfl (pa_cons (pv 1) (pa_cons (pe_op op_mod (pe_callTy call_int1 (by rfl) T.int (by decide +kernel) (pa_cons (pv 0) pa_nil)) (pv 1)) pa_nil)) (by rfl))))
      (pss_one (ps_ret (pv 0)))), ?_⟩
    refine ⟨_, rfl, a, rfl, _, rfl, b, rfl, _, _, rfl, ?_⟩
    refine while_by (fun σ H2 => H2 = H ∧ ∃ x y : Int, σ = [some (.int x), some (.int y)] ∧ 0 ≤ x ∧ 0 ≤ y ∧ Int.gcd x y = Int.gcd a b) (fun σ _ => match σ with | [_, some (.int y)] => y.toNat | _ => 0) ⟨rfl, _, _, rfl, by split <;> omega, by split <;> omega, ?_⟩ ?_ ?_
    · have e1 : ∀ z : Int, (if z < 0 then -z else z) = (z.natAbs : Int) := fun z => by split <;> omega
      rw [e1, e1]
      rfl
    · rintro σ H2 ⟨rfl, x, y, rfl, hx, hy, e⟩
      refine ⟨_, rfl, y, 0, rfl, rfl, _, rfl, ?_⟩
      refine ite2 (fun c => ?_) (fun c => ?_)
      · have hy0 : 0 < y := of_decide_eq_true c
        refine ⟨_, rfl, _, rfl, .inl ⟨x, rfl, _, rfl, x, y, rfl, rfl, hy0, _, _, rfl, ?_⟩⟩
        refine ⟨⟨rfl, _, _, rfl, hy, Int.emod_nonneg _ (by omega), by rw [gcd_turn hx hy0]; exact e⟩, ?_⟩
        show (x % y).toNat < y.toNat
        have := Int.emod_lt_of_pos x hy0
        have := Int.emod_nonneg x (show y ≠ 0 by omega)
        omega
      · have hy0 : y = 0 := by
          have : ¬ 0 < y := fun z => c (decide_eq_true z)
          omega
        subst hy0
        refine ⟨_, rfl, ?_⟩
        have e2 : x = ((Int.gcd a b : Nat) : Int) := by
          rw [← e, Int.gcd_zero_right]
          omega
        show Q (.int x) _
        rw [e2]
        exact q
    · intro σ H2 Q1 Q2 h12 hq
      obtain ⟨v, e, i, j, rfl, e2, b, e3, h⟩ := hq
      exact ⟨_, e, i, j, rfl, e2, b, e3, h12 _ _ h⟩
/-! ### a fraction in lowest terms -/
def fracT (a b : Int) : Int := (if b < 0 then -a else a) / (max 1 (Int.gcd a b : Int))
def fracB (a b : Int) : Int := (if b < 0 then -b else b) / (max 1 (Int.gcd a b : Int))
def spFrac : Sp := fun vs H Q _ => ∃ a b : Int, vs = [.int a, .int b] ∧ a.natAbs < 2 ^ 1000 ∧ b.natAbs < 2 ^ 1000 ∧ ∀ p, H p = none → Q (.ref p) (upd H p (.tup [.int (fracT a b), .int (fracB a b)]))
theorem scFrac : FnScope ["_law_top", "_law_bottom", "_law_many"] ["_law_top", "_law_bottom"] (defScope sFrac) := ⟨rfl, rfl, rfl, by decide +kernel, rfl, by decide +kernel, by decide +kernel⟩
theorem ok_frac {f fC : Addr} {fd fdC : FuncData} {k : Nat} (F : Fun K "_law_frac" "_law_frac" sFrac f fd) (T : BltT mg) (mx : mg "max" = none) (FC : Fun K "_law_common" "_law_common" sCommon fC fdC) (bC : Binds K fdC ["_law_one", "_law_other"] []) (gC : mg "_law_common" = some (.ref fC)) :
    FnOk P w K mg base CX0 (k + 2) f fd ["_law_top", "_law_bottom"] spFrac := by
  have GC : FnOk P w K mg base CX0 (k + 1) fC fdC ["_law_one", "_law_other"] spCommon := ok_common FC T
  refine F.ok scFrac (fun vs H Q E h => ?_) (fun cdv A outer s H vs Q E hr h => ?_)
  · obtain ⟨a, b, rfl, _⟩ := h
    rfl
  · obtain ⟨a, b, rfl, ha, hb, q⟩ := h
    refine ⟨_, pss_cons (ps_if (pt_cmpR op_lt (pv 1) pe_int (nomark _)) (pss_one (ps_par (i := 0) (j := 1) (by rfl) scFrac.nd rfl rfl (by decide) rfl rfl (pa_cons (pe_un un_neg (pv 0)) (pa_cons (pe_un un_neg (pv 1)) pa_nil)) (by rfl))) pss_nil)
      (pss_cons (ps_set (i := 2) scFrac.nd rfl (.inl rfl) (pe_callB (call_max2 rfl) (by rfl) mx (by decide +kernel) (pa_cons pe_int (pa_cons (pe_call GC hr (by rfl) gC FC.kp bC .nil pass0 (pa_cons (pv 0) (pa_cons (pv 1) pa_nil))) pa_nil))))
      (pss_one (ps_ret (pe_tup (pa_cons (pe_op op_fdivW (pv 0) (pv 2)) (pa_cons (pe_op op_fdivW (pv 1) (pv 2)) pa_nil)))))), ?_⟩
    have key : ∀ x y : Int, Int.gcd x y = Int.gcd a b → (x.natAbs = a.natAbs ∧ y.natAbs = b.natAbs) → fracT a b = x / max 1 (Int.gcd a b : Int) → fracB a b = y / max 1 (Int.gcd a b : Int) →
        CDivW x (if (Int.gcd x y : Int) > 1 then (Int.gcd x y : Int) else 1) ∧ CDivW y (if (Int.gcd x y : Int) > 1 then (Int.gcd x y : Int) else 1) ∧
        x / (if (Int.gcd x y : Int) > 1 then (Int.gcd x y : Int) else 1) = fracT a b ∧ y / (if (Int.gcd x y : Int) > 1 then (Int.gcd x y : Int) else 1) = fracB a b := by
      intro x y e hxy e1 e2
      have em : (if (Int.gcd x y : Int) > 1 then (Int.gcd x y : Int) else 1) = max 1 (Int.gcd a b : Int) := by
        rw [e]
        split <;> omega
      rw [em, e1, e2]
      have hg : (Int.gcd a b) ≤ a.natAbs + b.natAbs := by
        by_cases z : a = 0
        · subst z
          rw [Int.gcd_zero_left]
          omega
        · exact Nat.le_trans (Nat.le_of_dvd (Int.natAbs_pos.mpr z) (Int.gcd_dvd_natAbs_left a b)) (Nat.le_add_right _ _)
      have hm : (max 1 (Int.gcd a b : Int)).natAbs < 2 ^ 1001 := by
        have z : (2 : Nat) ^ 1001 = 2 ^ 1000 + 2 ^ 1000 := by decide +kernel
        have z1 : (1 : Nat) < 2 ^ 1000 := by decide +kernel
        omega
      exact ⟨wide_div (b := 1001) (by omega) hm (by decide) (by decide), wide_div (b := 1001) (by omega) hm (by decide) (by decide), rfl, rfl⟩
    refine ⟨_, rfl, b, 0, rfl, rfl, _, rfl, ?_⟩
    refine ite2 (fun c => ?_) (fun c => ?_)
    · have hb0 : b < 0 := of_decide_eq_true c
      obtain ⟨k1, k2, k3, k4⟩ := key (-a) (-b) (by rw [Int.gcd_neg, Int.neg_gcd]) ⟨by omega, by omega⟩ (by unfold fracT; rw [if_pos hb0]) (by unfold fracB; rw [if_pos hb0])
      refine ⟨_, rfl, a, rfl, _, rfl, b, rfl, _, _, rfl, ?_⟩
      refine ⟨_, rfl, _, rfl, -a, -b, rfl, ?_⟩
      refine ⟨1, (Int.gcd (-a) (-b) : Int), rfl, ?_⟩
      refine ⟨_, rfl, _, rfl, -a, _, rfl, rfl, k1, _, rfl, _, rfl, -b, _, rfl, rfl, k2, (by show 2 ≤ sizeLine; decide), fun p hp => ?_⟩
      have z := q p hp
      rw [← k3, ← k4] at z
      exact z
    · have hb0 : ¬ b < 0 := fun z => c (decide_eq_true z)
      obtain ⟨k1, k2, k3, k4⟩ := key a b rfl ⟨rfl, rfl⟩ (by unfold fracT; rw [if_neg hb0]) (by unfold fracB; rw [if_neg hb0])
      refine ⟨_, rfl, _, rfl, a, b, rfl, ?_⟩
      refine ⟨1, (Int.gcd a b : Int), rfl, ?_⟩
      refine ⟨_, rfl, _, rfl, a, _, rfl, rfl, k1, _, rfl, _, rfl, b, _, rfl, rfl, k2, (by show 2 ≤ sizeLine; decide), fun p hp => ?_⟩
      have z := q p hp
      rw [← k3, ← k4] at z
      exact z
theorem frac_pos {a b : Int} (hb : 0 < b) : ∃ g : Int, 0 < g ∧ a = g * fracT a b ∧ b = g * fracB a b ∧ Int.gcd (fracT a b) (fracB a b) = 1 ∧ 0 < fracB a b := by
  have h0 : 0 < Int.gcd a b := by
    rcases Nat.eq_zero_or_pos (Int.gcd a b) with z | z
    · have := (Int.gcd_eq_zero_iff.mp z).2
      omega
    · exact z
  have e : max 1 (Int.gcd a b : Int) = (Int.gcd a b : Int) := by omega
  unfold fracT fracB
  rw [if_neg (by omega), if_neg (by omega), e]
  have e2 : b = (Int.gcd a b : Int) * (b / (Int.gcd a b : Int)) := (Int.mul_ediv_cancel' (Int.gcd_dvd_right a b)).symm
  refine ⟨(Int.gcd a b : Int), by omega, (Int.mul_ediv_cancel' (Int.gcd_dvd_left a b)).symm, e2, Int.gcd_ediv_gcd_ediv_gcd h0, ?_⟩
  exact Int.ediv_pos_of_pos_of_dvd hb (by omega) (Int.gcd_dvd_right a b)
/-- a q that a caller may pass -/
def QF (t u : Int) : Prop := 1 ≤ u ∧ u ≤ 4 ∧ Int.gcd t u = 1 ∧ -(4 * u) ≤ t ∧ t ≤ 4 * u
/-- a c of moderate size -/
def CF (t u : Int) : Prop := t ≠ 0 ∧ 0 < u ∧ Int.gcd t u = 1 ∧ t.natAbs ≤ 10 ^ 30 ∧ u ≤ 10 ^ 30
theorem qf_of {a b : Int} (h1 : 1 ≤ b) (h4 : b ≤ 4) (l : -(4 * b) ≤ a) (u : a ≤ 4 * b) : QF (fracT a b) (fracB a b) := by
  obtain ⟨g, g0, ea, eb, hg, hb⟩ := frac_pos (a := a) (b := b) (by omega)
  generalize fracT a b = t at *
  generalize fracB a b = v at *
  refine ⟨by omega, ?_, hg, ?_, ?_⟩
  · have : 1 * v ≤ g * v := Int.mul_le_mul_of_nonneg_right (by omega) (by omega)
    omega
  · refine Int.le_of_mul_le_mul_left (a := g) ?_ g0
    rw [Int.mul_neg, Int.mul_left_comm, ← ea, ← eb]
    exact l
  · refine Int.le_of_mul_le_mul_left (a := g) ?_ g0
    rw [Int.mul_left_comm, ← ea, ← eb]
    exact u
theorem cf_of {a b : Int} (h1 : 1 ≤ b) (h4 : b ≤ 10 ^ 30) (n : a ≠ 0) (l : a.natAbs ≤ 10 ^ 30) : CF (fracT a b) (fracB a b) := by
  obtain ⟨g, g0, ea, eb, hg, hb⟩ := frac_pos (a := a) (b := b) (by omega)
  generalize fracT a b = t at *
  generalize fracB a b = v at *
  refine ⟨fun z => n (by rw [ea, z, Int.mul_zero]), hb, hg, ?_, ?_⟩
  · refine Nat.le_trans ?_ l
    rw [ea, Int.natAbs_mul]
    exact Nat.le_mul_of_pos_left _ (by omega)
  · have : 1 * v ≤ g * v := Int.mul_le_mul_of_nonneg_right (by omega) (by omega)
    omega
/-! ### the law's own draws of q and c -/
def spQ : Sp := fun vs H Q _ => ∃ (b g : Addr) (n : Nat), vs = [.ref b] ∧ BagAt H b g n ∧ n < 999999999990 ∧
  ∀ (p : Addr) (t u : Int) (H' : Hp), QF t u → KeptB b g H H' → BagAt H' b g (n + 3) → H p = none → H' p = some (.tup [.int t, .int u]) → Q (.ref p) H'
def spC : Sp := fun vs H Q _ => ∃ (b g : Addr) (n : Nat), vs = [.ref b] ∧ BagAt H b g n ∧ n < 999999999990 ∧
  ∀ (p : Addr) (t u : Int) (H' : Hp), CF t u → KeptB b g H H' → BagAt H' b g (n + 5) → H p = none → H' p = some (.tup [.int t, .int u]) → Q (.ref p) H'
/-- what is new stands apart from the bag -/
theorem BagAt.off {H H2 : Hp} {b g p : Addr} {n : Nat} (h : BagAt H b g n) (e : H p = none) : p ≠ b ∧ p ≠ g := by
  obtain ⟨_, ⟨_, _, _, h1, _⟩, _, h2, _⟩ := h
  exact ⟨(ne_of_none h1 e).symm, (ne_of_none h2 e).symm⟩
theorem BagAt.upd {H : Hp} {b g p : Addr} {n : Nat} {o : HO} (h : BagAt H b g n) (n1 : b ≠ p) (n2 : g ≠ p) : BagAt (L2.upd H p o) b g n := by
  obtain ⟨ne, ⟨seed, c, al, h1, h2⟩, gs, h3, h4⟩ := h
  exact ⟨ne, ⟨seed, c, al, by rw [upd_ne n1]; exact h1, h2⟩, gs, by rw [upd_ne n2]; exact h3, h4⟩
theorem BagAt.new {H : Hp} {b g p : Addr} {n : Nat} {o : HO} (h : BagAt H b g n) (e : H p = none) : BagAt (L2.upd H p o) b g n := h.same (same_upd e)
theorem KeptB.free {b g p : Addr} {H H' : Hp} {n : Nat} (k : KeptB b g H H') (B : BagAt H b g n) (e : H' p = none) (n1 : p ≠ b) (n2 : p ≠ g) : H p = none := by
  cases q : H p with
  | none => rfl
  | some o =>
    rw [k p o q n1 n2] at e
    cases e
theorem KeptB.of {b g : Addr} {H H' : Hp} (s : Same H H') : KeptB b g H H' := fun c o h _ _ => s c o h
theorem scQ : FnScope ["_law_bag_here", "_law_bottom"] ["_law_bag_here"] (defScope sQ) := ⟨rfl, rfl, rfl, by decide +kernel, rfl, by decide +kernel, by decide +kernel⟩
structure NumT (P : Program) (w : World) (K : PySem.W.Frag) (mg : Str → Option Value) (base : Heap) where
  fP : Addr
  fdP : FuncData
  fS : Addr
  fdS : FuncData
  fF : Addr
  fdF : FuncData
  FP : FnOk P w K mg base CX0 1 fP fdP ["_law_bag_here", "_law_many"] spPick
  FS : FnOk P w K mg base CX0 2 fS fdS ["_law_bag_here", "_law_things"] spSome
  FF : FnOk P w K mg base CX0 2 fF fdF ["_law_top", "_law_bottom"] spFrac
  bP : Binds K fdP ["_law_bag_here", "_law_many"] []
  bS : Binds K fdS ["_law_bag_here", "_law_things"] []
  bF : Binds K fdF ["_law_top", "_law_bottom"] []
  gP : mg "_law_pick" = some (.ref fP)
  gS : mg "_law_some" = some (.ref fS)
  gF : mg "_law_frac" = some (.ref fF)
  kP : PySem.W.keepIn K (.ref fP) = true
  kS : PySem.W.keepIn K (.ref fS) = true
  kF : PySem.W.keepIn K (.ref fF) = true
theorem ok_q {f : Addr} {fd : FuncData} (F : Fun K "_law_q" "_law_q" sQ f fd) (T : NumT P w K mg base) : FnOk P w K mg base CX0 3 f fd ["_law_bag_here"] spQ := by
  refine F.ok scQ (fun vs H Q E h => ?_) (fun cdv A outer s H vs Q E hr h => ?_)
  · obtain ⟨b, g, n, rfl, _⟩ := h
    rfl
  · obtain ⟨b, g, n, rfl, B, hn, q⟩ := h
    have hr1 : Room 1 _ := hr.mono (by decide)
    refine ⟨_, pss_cons (ps_set (i := 1) scQ.nd rfl (.inl rfl) (pe_call T.FS hr (by rfl) T.gS T.kS T.bS .nil pass0 (pa_cons (pv 0) (pa_cons (pe_lst (pa_cons pe_int (pa_cons pe_int (pa_cons pe_int (pa_cons pe_int (pa_cons pe_int (pa_cons pe_int pa_nil))))))) pa_nil))))
      (pss_one (ps_ret (pe_ifExp (pt_cmpR op_gt (pe_call T.FP hr1 (by rfl) T.gP T.kP T.bP .nil pass0 (pa_cons (pv 0) (pa_cons pe_int pa_nil))) pe_int (nomark _))
        (pe_call T.FF hr (by rfl) T.gF T.kF T.bF .nil pass0 (pa_cons (pe_op op_sub (pe_call T.FP hr1 (by rfl) T.gP T.kP T.bP .nil pass0 (pa_cons (pv 0) (pa_cons (pe_op op_add (pe_op op_mul pe_int (pv 1)) pe_int) pa_nil))) (pe_op op_mul pe_int (pv 1))) (pa_cons (pv 1) pa_nil)))
        (pe_tup (pa_cons pe_int (pa_cons pe_int pa_nil)))))), ?_⟩
    refine ⟨_, rfl, (by show 6 ≤ sizeLine; decide), fun l nl => ?_⟩
    obtain ⟨o1, o2⟩ := B.off (H2 := H) nl
    refine ⟨b, g, l, n, _, rfl, B.new nl, by omega, upd_same, o1, o2, by show 0 < 6; decide, by show 6 ≤ 1000; decide, fun j v H1 hv B1 K1 => ?_⟩
    obtain ⟨bt, rfl, h1, h4⟩ : ∃ bt : Int, v = .int bt ∧ 1 ≤ bt ∧ bt ≤ 4 := by
      have hm := List.mem_of_getElem? hv
      simp only [List.mem_cons, List.not_mem_nil, or_false] at hm
      rcases hm with rfl | rfl | rfl | rfl | rfl | rfl <;> exact ⟨_, rfl, by decide, by decide⟩
    have k1 : KeptB b g H H1 := (KeptB.of (same_upd nl)).trans K1
    refine ⟨_, rfl, b, g, n + 1, 3, rfl, B1, by omega, by decide, by decide +kernel, fun r H2 r0 r1 B2 K2 => ?_⟩
    have k2 : KeptB b g H H2 := k1.trans K2
    refine ⟨r, 0, rfl, rfl, _, rfl, ?_⟩
    refine ite2 (fun _ => ?_) (fun _ => ?_)
    · refine ⟨_, rfl, _, rfl, 8, bt, rfl, rfl, .inl (by decide), _, 1, rfl, rfl, b, g, n + 2, 8 * bt + 1, rfl, B2, by omega, by omega, ?_, fun r2 H3 r20 r21 B3 K3 => ?_⟩
      · exact Int.lt_of_le_of_lt (show 8 * bt + 1 ≤ 1000 by omega) (by decide +kernel)
      · refine ⟨_, rfl, 4, bt, rfl, rfl, .inl (by decide), r2, 4 * bt, rfl, rfl, _, rfl, r2 - 4 * bt, bt, rfl, ?_, ?_, fun p hp => ?_⟩
        · exact Nat.lt_of_le_of_lt (show (r2 - 4 * bt).natAbs ≤ 1000 by omega) (by decide +kernel)
        · exact Nat.lt_of_le_of_lt (show bt.natAbs ≤ 1000 by omega) (by decide +kernel)
        · obtain ⟨z1, z2⟩ := B3.off (H2 := H) hp
          have k3 := k2.trans K3
          exact q p _ _ _ (qf_of h1 h4 (by omega) (by omega)) (k3.trans (KeptB.of (same_upd hp))) (B3.new hp) (k3.free B hp z1 z2) upd_same
    · refine ⟨(by show 2 ≤ sizeLine; decide), fun p hp => ?_⟩
      obtain ⟨z1, z2⟩ := B2.off (H2 := H) hp
      exact q p 0 1 _ ⟨by decide, by decide, by decide, by decide, by decide⟩ (k2.trans (KeptB.of (same_upd hp))) ((B2.new hp).mono (by omega)) (k2.free B hp z1 z2) upd_same
theorem scC : FnScope ["_law_bag_here", "_law_great", "_law_top", "_law_bottom"] ["_law_bag_here"] (defScope sC) := ⟨rfl, rfl, rfl, by decide +kernel, rfl, by decide +kernel, by decide +kernel⟩
theorem ok_c {f : Addr} {fd : FuncData} (F : Fun K "_law_c" "_law_c" sC f fd) (T : NumT P w K mg base) : FnOk P w K mg base CX0 3 f fd ["_law_bag_here"] spC := by
  refine F.ok scC (fun vs H Q E h => ?_) (fun cdv A outer s H vs Q E hr h => ?_)
  · obtain ⟨b, g, n, rfl, _⟩ := h
    rfl
  · obtain ⟨b, g, n, rfl, B, hn, q⟩ := h
    have hr1 : Room 1 _ := hr.mono (by decide)
    refine ⟨_, pss_cons (ps_set (i := 1) scC.nd rfl (.inl rfl) (pe_call T.FS hr (by rfl) T.gS T.kS T.bS .nil pass0 (pa_cons (pv 0) (pa_cons (pe_lst (pa_cons pe_int (pa_cons pe_int (pa_cons pe_int (pa_cons pe_int (pa_cons pe_int (pa_cons (pe_op op_pow pe_int pe_int) (pa_cons pe_int (pa_cons (pe_op op_pow pe_int pe_int) pa_nil))))))))) pa_nil))))
      (pss_cons (ps_set (i := 2) scC.nd rfl (.inl rfl) (pe_op op_add pe_int (pe_call T.FP hr1 (by rfl) T.gP T.kP T.bP .nil pass0 (pa_cons (pv 0) (pa_cons (pe_op op_sub (pv 1) pe_int) pa_nil)))))
      (pss_cons (ps_set (i := 3) scC.nd rfl (.inl rfl) (pe_op op_add pe_int (pe_call T.FP hr1 (by rfl) T.gP T.kP T.bP .nil pass0 (pa_cons (pv 0) (pa_cons (pe_call T.FS hr (by rfl) T.gS T.kS T.bS .nil pass0 (pa_cons (pv 0) (pa_cons (pe_lst (pa_cons pe_int (pa_cons pe_int (pa_cons pe_int (pa_cons pe_int (pa_cons pe_int (pa_cons (pe_op op_sub (pv 1) pe_int) pa_nil))))))) pa_nil))) pa_nil)))))
      (pss_one (ps_ret (pe_call T.FF hr (by rfl) T.gF T.kF T.bF .nil pass0 (pa_cons (pe_ifExp (pt_cmpR op_eq (pe_call T.FP hr1 (by rfl) T.gP T.kP T.bP .nil pass0 (pa_cons (pv 0) (pa_cons pe_int pa_nil))) pe_int (nomark _)) (pv 2) (pe_un un_neg (pv 2))) (pa_cons (pv 3) pa_nil))))))), ?_⟩
    refine ⟨_, rfl, 10, 15, rfl, rfl, ⟨by decide, by decide, by decide⟩, 10, 30, rfl, rfl, ⟨by decide, by decide, by decide⟩, (by show 8 ≤ sizeLine; decide), fun l nl => ?_⟩
    obtain ⟨o1, o2⟩ := B.off (H2 := H) nl
    refine ⟨b, g, l, n, _, rfl, B.new nl, by omega, upd_same, o1, o2, by show 0 < 8; decide, by show 8 ≤ 1000; decide, fun j v H1 hv B1 K1 => ?_⟩
    have big : (10 : Int) ^ 30 < 2 ^ 100 := by decide +kernel
    obtain ⟨gr, rfl, h1, h4⟩ : ∃ gr : Int, v = .int gr ∧ 3 ≤ gr ∧ gr ≤ 10 ^ 30 := by
      have hm := List.mem_of_getElem? hv
      simp only [List.mem_cons, List.not_mem_nil, or_false] at hm
      rcases hm with rfl | rfl | rfl | rfl | rfl | rfl | rfl | rfl <;> exact ⟨_, rfl, by decide +kernel, by decide +kernel⟩
    have b2 : (10 : Int) ^ 30 < 2 ^ 1000 := by decide +kernel
    have b3 : (10 : Nat) ^ 30 < 2 ^ 1000 := by decide +kernel
    have k1 : KeptB b g H H1 := (KeptB.of (same_upd nl)).trans K1
    refine ⟨_, rfl, _, rfl, gr, 1, rfl, rfl, b, g, n + 1, gr - 1, rfl, B1, by omega, by omega, Int.lt_of_le_of_lt (by omega) b2, fun r H2 r0 r1 B2 K2 => ?_⟩
    have k2 : KeptB b g H H2 := k1.trans K2
    refine ⟨1, r, rfl, rfl, ?_⟩
    refine ⟨_, rfl, _, rfl, _, rfl, gr, 1, rfl, rfl, (by show 6 ≤ sizeLine; decide), fun l2 nl2 => ?_⟩
    obtain ⟨o3, o4⟩ := B2.off (H2 := H) nl2
    refine ⟨b, g, l2, n + 2, _, rfl, B2.new nl2, by omega, upd_same, o3, o4, by show 0 < 6; decide, by show 6 ≤ 1000; decide, fun j2 v2 H3 hv2 B3 K3 => ?_⟩
    have k3 : KeptB b g H H3 := k2.trans ((KeptB.of (same_upd nl2)).trans K3)
    obtain ⟨m, rfl, m1, m2⟩ : ∃ m : Int, v2 = .int m ∧ 0 < m ∧ m ≤ 10 ^ 30 := by
      have hm := List.mem_of_getElem? hv2
      have z : (12 : Int) ≤ 10 ^ 30 := by decide +kernel
      simp only [List.mem_cons, List.not_mem_nil, or_false] at hm
      rcases hm with rfl | rfl | rfl | rfl | rfl | rfl <;> exact ⟨_, rfl, by omega, by omega⟩
    refine ⟨b, g, n + 3, m, rfl, B3, by omega, m1, Int.lt_of_le_of_lt m2 b2, fun r3 H4 r30 r31 B4 K4 => ?_⟩
    have k4 : KeptB b g H H4 := k3.trans K4
    refine ⟨1, r3, rfl, rfl, ?_⟩
    refine ⟨_, rfl, b, g, n + 4, 2, rfl, B4, by omega, by decide, by decide +kernel, fun r5 H5 _ _ B5 K5 => ?_⟩
    have k5 : KeptB b g H H5 := k4.trans K5
    have fin : ∀ x : Int, x ≠ 0 → x.natAbs ≤ 10 ^ 30 → spFrac [.int x, .int (1 + r3)] H5 Q (fun _ _ _ => False) := by
      intro x x0 xb
      refine ⟨x, 1 + r3, rfl, Nat.lt_of_le_of_lt xb b3, Nat.lt_of_le_of_lt (show (1 + r3).natAbs ≤ 10 ^ 30 by omega) b3, fun p hp => ?_⟩
      obtain ⟨z1, z2⟩ := B5.off (H2 := H) hp
      exact q p _ _ _ (cf_of (by omega) (by omega) x0 xb) (k5.trans (KeptB.of (same_upd hp))) (B5.new hp) (k5.free B hp z1 z2) upd_same
    refine ⟨rfl, _, rfl, ?_⟩
    refine ite2 (fun _ => ?_) (fun _ => ?_)
    · refine ⟨_, rfl, _, rfl, ?_⟩
      exact fin (1 + r) (by omega) (by omega)
    · refine ⟨_, rfl, 1 + r, rfl, _, rfl, ?_⟩
      exact fin (-(1 + r)) (by omega) (by omega)
end
end Nm

/-! Dicts whose keys are pairs of a fraction and a number: kept, read, filled, walked. -/
namespace Nm
open PySem PySem.Spec PyProof.Rows L2

/-- an entry: (top, bottom, number), the key's own tuple, the value's object -/
abbrev EN := (Int × Int × Int) × Addr × Addr
def nkey (k : Int × Int × Int) : NestedKey := .tup [.tup [.num k.1, .num k.2.1], .num k.2.2]
theorem nkey_inj {a b : Int × Int × Int} (h : nkey a = nkey b) : a = b := by
  obtain ⟨a1, a2, a3⟩ := a
  obtain ⟨b1, b2, b3⟩ := b
  simp only [nkey, NestedKey.tup.injEq, List.cons.injEq, NestedKey.num.injEq, and_true] at h
  obtain ⟨⟨h1, h2⟩, h3⟩ := h
  rw [h1, h2, h3]
def toX (e : EN) : NestedKey × Addr × Value := (nkey e.1, e.2.1, .ref e.2.2)
/-- the dict's object at d -/
def dN (P : Program) (w : World) (d : Addr) (es : List EN) : HO := .ext fun h => ∃ o ens ep, h.get? d = some o ∧ o.ExactDict ∧ o.data = .dict ens ep ∧ ens.toList = (es.map toX).map (entryOfKey (nestedKind P w))
structure NDict (P : Program) (w : World) (H : Hp) (d : Addr) (es : List EN) : Prop where
  at_ : Rd H d (dN P w d es)
  sys : (d == sysModules) = false
  len : es.length ≤ 1000
  nd : (es.map (·.1)).Nodup
  key : ∀ e ∈ es, ∃ qa, H e.2.1 = some (.tup [.ref qa, .int e.1.2.2]) ∧ H qa = some (.tup [.int e.1.1, .int e.1.2.1])
theorem dN_own {P : Program} {w : World} {d x : Addr} {es : List EN} : dN P w d es ≠ .own x := fun z => by
  have z' : HO.ext _ = HO.own x := z
  cases z'
theorem dN_ok {P : Program} {w : World} {H : Hp} {h : Heap} {d : Addr} {es : List EN} (x : ∃ o ens ep, h.get? d = some o ∧ o.ExactDict ∧ o.data = .dict ens ep ∧ ens.toList = (es.map toX).map (entryOfKey (nestedKind P w))) : ObjOk P w H h d (dN P w d es) := by
  obtain ⟨o, ens, ep, e1, e2, e3, e4⟩ := x
  exact ⟨⟨o, ens, ep, e1, e2, e3, e4⟩, ⟨o, e1⟩, fun h1 h2 z k => by
    obtain ⟨o, ens, ep, e1, r⟩ := z
    exact ⟨o, ens, ep, k _ e1, r⟩⟩
theorem dN_at {P : Program} {w : World} {H : Hp} {h : Heap} {d : Addr} {es : List EN} (x : ObjOk P w H h d (dN P w d es)) : ∃ o ens ep, h.get? d = some o ∧ o.ExactDict ∧ o.data = .dict ens ep ∧ ens.toList = (es.map toX).map (entryOfKey (nestedKind P w)) := by
  have y : ObjOk P w H h d (.ext fun h => ∃ o ens ep, h.get? d = some o ∧ o.ExactDict ∧ o.data = .dict ens ep ∧ ens.toList = (es.map toX).map (entryOfKey (nestedKind P w))) := x
  exact y.1
section
variable {X : Cx} {pins : List (Addr × Obj)} {σ : L2.St} {H : Hp} {s : Shared} {d : Addr} {es : List EN}
theorem key_is (I : Inv X pins σ H s) {k : Int × Int × Int} {ka qa : Addr} (h1 : H ka = some (.tup [.ref qa, .int k.2.2])) (h2 : H qa = some (.tup [.int k.1, .int k.2.1])) : (nestedKind X.prog X.w).is s.heap (nkey k) ka := by
  obtain ⟨_, its, r1, o, ho, hc, n, hd⟩ := (show ObjOk X.prog X.w H s.heap ka (.tup [.ref qa, .int k.2.2]) from I.hok ka _ h1)
  obtain ⟨_, its2, r2, o2, ho2, hc2, n2, hd2⟩ := (show ObjOk X.prog X.w H s.heap qa (.tup [.int k.1, .int k.2.1]) from I.hok qa _ h2)
  obtain ⟨u1, u2, rfl, ra, rb⟩ := vals2 r1
  obtain ⟨u3, u4, rfl, rc, rd⟩ := vals2 r2
  obtain rfl : u1 = Value.ref qa := ra
  obtain ⟨t2, rfl⟩ := (show ∃ t, u2 = Value.int k.2.2 t from rb)
  obtain ⟨t3, rfl⟩ := (show ∃ t, u3 = Value.int k.1 t from rc)
  obtain ⟨t4, rfl⟩ := (show ∃ t, u4 = Value.int k.2.1 t from rd)
  exact ⟨.tup ho hc hd (.cons (.tup ho2 hc2 hd2 (.cons (.int _ _) (.cons (.int _ _) .nil))) (.cons (.int _ _) .nil)), by show NestedKey.depth (nkey k) ≤ 8; simp [nkey, NestedKey.depth, NestedKey.depthAll]⟩
theorem nd_heap (I : Inv X pins σ H s) (N : NDict X.prog X.w H d es) : s.heap.DictOfH (nestedKind X.prog X.w) d (es.map toX) := by
  obtain ⟨o, ens, ep, e1, e2, e3, e4⟩ := dN_at (N.at_.ok I.hok)
  refine ⟨o, ens, ep, e1, e2, e3, e4, fun x hx => ?_, ?_⟩
  · obtain ⟨e, he, rfl⟩ := List.mem_map.mp hx
    obtain ⟨qa, h1, h2⟩ := N.key e he
    exact key_is I h1 h2
  · rw [List.map_map]
    have z : (Prod.fst ∘ toX) = fun e : EN => nkey e.1 := rfl
    rw [z]
    have z2 : (es.map fun e : EN => nkey e.1) = (es.map (·.1)).map nkey := by rw [List.map_map]; rfl
    rw [z2]
    exact List.Pairwise.map nkey (fun a b n e => n (nkey_inj e)) N.nd
end
/-! ### a thing is stored under a key -/
def hasE (es : List EN) (k : Int × Int × Int) : Bool := es.any fun e => decide (e.1 = k)
def putE (es : List EN) (k : Int × Int × Int) (ka va : Addr) : List EN := if hasE es k then es.map (fun e => if e.1 = k then (e.1, e.2.1, va) else e) else es ++ [(k, ka, va)]
theorem at_has (es : List EN) (k : Int × Int × Int) : (atKey (es.map toX) (nkey k)).isSome = hasE es k := by
  induction es with
  | nil => rfl
  | cons e es ih =>
    by_cases h : e.1 = k
    · have h' : (toX e).1 = nkey k := by rw [← h]; rfl
      simp [atKey, hasE, h, h']
    · have h' : ¬ (toX e).1 = nkey k := fun z => h (nkey_inj z)
      simpa [atKey, hasE, h, h'] using ih
theorem put_x (es : List EN) (k : Int × Int × Int) (ka va : Addr) : storedH (es.map toX) (nkey k) ka (.ref va) = (putE es k ka va).map toX := by
  unfold storedH putE
  rw [at_has]
  split
  · rw [List.map_map, List.map_map]
    refine List.map_congr_left fun e _ => ?_
    by_cases h : e.1 = k
    · have h' : (toX e).1 = nkey k := by rw [← h]; rfl
      simp [putAt, h, h', toX]
    · have h' : ¬ (toX e).1 = nkey k := fun z => h (nkey_inj z)
      simp [putAt, h, h']
  · rw [List.map_append]
    rfl
theorem put_len (es : List EN) (k : Int × Int × Int) (ka va : Addr) : (putE es k ka va).length ≤ es.length + 1 := by
  unfold putE
  split
  · simp
  · simp
theorem put_mem {es : List EN} {k : Int × Int × Int} {ka va : Addr} {e : EN} (h : e ∈ putE es k ka va) : e = (k, ka, va) ∨ (e.1 = k ∧ e.2.2 = va ∧ ∃ v, (k, e.2.1, v) ∈ es) ∨ e ∈ es := by
  unfold putE at h
  split at h
  · obtain ⟨x, hx, rfl⟩ := List.mem_map.mp h
    split
    · rename_i q
      refine .inr (.inl ⟨q, rfl, x.2.2, ?_⟩)
      rw [← q]
      exact hx
    · exact .inr (.inr hx)
  · rcases List.mem_append.mp h with h | h
    · exact .inr (.inr h)
    · exact .inl (List.mem_singleton.mp h)
theorem put_nd {es : List EN} {k : Int × Int × Int} {ka va : Addr} (n : (es.map (·.1)).Nodup) : ((putE es k ka va).map (·.1)).Nodup := by
  unfold putE
  split
  · rw [List.map_map]
    have z : ((fun e : EN => e.1) ∘ fun e : EN => if e.1 = k then (e.1, e.2.1, va) else e) = fun e : EN => e.1 := by
      funext e
      show (if e.1 = k then (e.1, e.2.1, va) else e).1 = e.1
      split <;> rfl
    rw [z]
    exact n
  · rename_i h
    rw [List.map_append]
    refine List.nodup_append.mpr ⟨n, by simp, fun a ha b hb => ?_⟩
    obtain rfl : b = k := by simpa using hb
    intro e
    subst e
    obtain ⟨x, hx, e⟩ := List.mem_map.mp ha
    exact h (by unfold hasE; rw [List.any_eq_true]; exact ⟨x, hx, by simp [e]⟩)
section
variable {P : Program} {w : World} {H : Hp} {d : Addr} {es : List EN}
theorem NDict.put {k : Int × Int × Int} {ka va qa : Addr} (N : NDict P w H d es) (hd : H d = some (dN P w d es)) (hl : es.length < 1000) (h1 : H ka = some (.tup [.ref qa, .int k.2.2])) (h2 : H qa = some (.tup [.int k.1, .int k.2.1])) :
    NDict P w (L2.upd H d (dN P w d (putE es k ka va))) d (putE es k ka va) where
  at_ := .inl upd_same
  sys := N.sys
  len := by have := put_len es k ka va; omega
  nd := put_nd N.nd
  key := fun e he => by
    have up : ∀ x xs, H x = some (.tup xs) → L2.upd H d (dN P w d (putE es k ka va)) x = some (.tup xs) := fun x xs q => by
      rw [upd_ne (ne_of q hd (fun z => nomatch z))]
      exact q
    rcases put_mem he with rfl | ⟨e1, _, v, hm⟩ | hm
    · exact ⟨qa, up _ _ h1, up _ _ h2⟩
    · obtain ⟨q, a1, a2⟩ := N.key _ hm
      rw [e1]
      exact ⟨q, up _ _ a1, up _ _ a2⟩
    · obtain ⟨q, a1, a2⟩ := N.key _ hm
      exact ⟨q, up _ _ a1, up _ _ a2⟩
/-- while it and the tuples stay -/
theorem NDict.keep {H' : Hp} (N : NDict P w H d es) (hd : Rd H' d (dN P w d es)) (k : ∀ c xs, H c = some (.tup xs) → H' c = some (.tup xs)) : NDict P w H' d es :=
  ⟨hd, N.sys, N.len, N.nd, fun e he => let ⟨q, a1, a2⟩ := N.key e he; ⟨q, k _ _ a1, k _ _ a2⟩⟩
theorem NDict.lock {o : Obj} (N : NDict P w H d es) (hd : H d = some (dN P w d es)) : NDict P w (L2.upd H d (.frz o (dN P w d es))) d es :=
  N.keep (.inr ⟨o, upd_same⟩) fun c xs q => by rw [upd_ne (ne_of q hd (fun z => nomatch z))]; exact q
theorem NDict.open {o : Obj} (N : NDict P w H d es) (hd : H d = some (.frz o (dN P w d es))) : NDict P w (L2.upd H d (dN P w d es)) d es :=
  N.keep (.inl upd_same) fun c xs q => by rw [upd_ne (ne_of q hd (fun z => nomatch z))]; exact q
theorem NDict.nil {p : Addr} (hs : (p == sysModules) = false) : NDict P w (L2.upd H p (dN P w p [])) p [] :=
  ⟨.inl upd_same, hs, Nat.zero_le _, List.nodup_nil, fun _ h => nomatch h⟩
theorem dN_mut : Mut (some (dN P w d es)) := True.intro
end
/-! ### the rules -/
section
variable {X : Cx} {o i value : Expr} {pos pos' : Pos} {td ty tv : TE}
def tNNew (P : Program) (w : World) : TE := fun _ H Q => ∀ p, H p = none → (p == sysModules) = false → Q (.ref p) (L2.upd H p (dN P w p []))
theorem pe_nnew : PE X (.Dict [] [] pos) (tNNew X.prog X.w) := ⟨fun pins s σ H Q I h =>
  wpAny_Dict_empty ⟨.ref s.heap.objs.size, _, I.laid (a := s.heap.objs.size) (o := dN X.prog X.w s.heap.objs.size []) (t' := s.toks) (fun _ _ q => Heap.get?_push_of_some _ q) (Nat.le_refl _) (dN_ok ⟨_, #[], 0, Heap.get?_push_size _ rfl, ⟨rfl, rfl, rfl⟩, rfl, rfl⟩), rfl, h _ (I.hok.fresh (Nat.le_refl _)) (beq_eq_false_iff_ne.mpr (Ne.symm (Nat.ne_of_lt I.big)))⟩⟩
def sNPut (P : Program) (w : World) (td ty tv : TE) : TS := fun D σ H => tv σ H fun v H1 => td σ H1 fun x H2 => ty σ H2 fun y H3 => ∃ (d : Addr) (es : List EN) (k : Int × Int × Int) (ka qa va : Addr),
  x = .ref d ∧ y = .ref ka ∧ v = .ref va ∧ H3 d = some (dN P w d es) ∧ NDict P w H3 d es ∧ es.length < 1000 ∧ H3 ka = some (.tup [.ref qa, .int k.2.2]) ∧ H3 qa = some (.tup [.int k.1, .int k.2.1]) ∧ D.nx σ (L2.upd H3 d (dN P w d (putE es k ka va)))
theorem ps_nput {j : Nat} (hr : Room j X.A) (ho : PE X o td) (hi : PE X i ty) (hv : PE X value tv) (hs : swapsWith value (some (.Subscript o i pos')) pos.line X.env = pure false := by rfl) :
    PS X (.Assign [.Subscript o i pos'] value pos) (sNPut X.prog X.w td ty tv) := by
  refine ⟨fun pins s σ H D I h => ?_⟩
  refine wpAny_Assign_Subscript (thn (hv.run pins s σ H _ I h) fun r s1 ⟨v, H1, I1, rv, q1⟩ => thn (ho.run pins s1 σ H1 _ I1 q1) fun u s2 ⟨x, H2, I2, rx, q2⟩ => thn (hi.run pins s2 σ H2 _ I2 q2) fun iv s3 ⟨y, H3, I3, ry, d, es, k, ka, qa, va, ex, ey, ev, hd, N, hl, h1, h2, q3⟩ => ?_) hs
  subst ex ey ev
  obtain rfl : u = Value.ref d := rx
  obtain rfl : iv = Value.ref ka := ry
  obtain rfl : r = Value.ref va := rv
  have hsz : (es.map toX).length ≤ sizeLine := by
    rw [List.length_map]
    exact Nat.le_trans (Nat.le_of_lt hl) (by decide)
  refine wpAny_setItem_heap (hsz := hsz) (show X.A.in1.units + 8 < cLine by have := hr.units; show X.A.units + 1 + 8 < cLine; omega) (key_is I3 h1 h2) (nd_heap I3 N) fun h' dd hs => ⟨σ, _, ?_, q3⟩
  rw [put_x] at dd
  obtain ⟨ob, ens, ep, e1, e2, e3, e4, _⟩ := dd
  exact I3.write (x := d) (e := d) (by rw [hd]; exact dN_mut) (.inl rfl) (fun b q hb z => (hs.2 b hb).trans z) ⟨ob, e1⟩ (dN_ok ⟨ob, ens, ep, e1, e2, e3, e4⟩)
/-- d[k], k being there -/
def tNGet (P : Program) (w : World) (td ty : TE) : TE := fun σ H Q => td σ H fun x H1 => ty σ H1 fun y H2 => ∃ (d : Addr) (es : List EN) (e : EN) (ka qa : Addr),
  x = .ref d ∧ y = .ref ka ∧ NDict P w H2 d es ∧ e ∈ es ∧ H2 ka = some (.tup [.ref qa, .int e.1.2.2]) ∧ H2 qa = some (.tup [.int e.1.1, .int e.1.2.1]) ∧ Q (.ref e.2.2) H2
theorem pe_nget {j : Nat} (hr : Room j X.A) (ho : PE X o td) (hi : PE X i ty) (hs : NoSl i) : PE X (.Subscript o i pos) (tNGet X.prog X.w td ty) := by
  refine ⟨fun pins s σ H Q I h => ?_⟩
  refine subD_of PySem.F.slot_dict_getitem.lookup hs (thn (ho.run pins s σ H _ I h) fun u s1 ⟨x, H1, I1, rx, q1⟩ => thn (hi.run pins s1 σ H1 _ I1 q1) fun iv s2 ⟨y, H2, I2, ry, d, es, e, ka, qa, ex, ey, N, he, h1, h2, q2⟩ => ?_)
  subst ex ey
  obtain rfl : u = Value.ref d := rx
  obtain rfl : iv = Value.ref ka := ry
  have hd := nd_heap I2 N
  refine ⟨hd.typeIs, ?_⟩
  obtain ⟨n, hn, hn2⟩ := List.getElem_of_mem he
  have hx : (es.map toX)[n]? = some (nkey e.1, e.2.1, .ref e.2.2) := by
    rw [List.getElem?_map, List.getElem?_eq_getElem hn, hn2]
    rfl
  have hat := atKey_of_get hd.nodup hx
  exact wpAny_getItem_heap (show X.A.in1.units + 8 < cLine by have := hr.units; show X.A.units + 1 + 8 < cLine; omega) (key_is I2 h1 h2) hd hat ⟨.ref e.2.2, H2, I2.tok _, rfl, q2⟩
/-- the same within a comprehension: P, w as its def has them -/
theorem pe_ngetC {P : Program} {w : World} (hP : X.prog = P) (hw : X.w = w) {j : Nat} (hr : Room j X.A) (ho : PE X o td) (hi : PE X i ty) (hs : NoSl i) : PE X (.Subscript o i pos) (tNGet P w td ty) := by
  subst hP hw
  exact pe_nget hr ho hi hs
theorem ix_tupC {K : PySem.W.Frag} (hK : X.K = K) : IxR X (rIxT K) := by
  subst hK
  exact ix_tup
theorem pe_nnewC {P : Program} {w : World} (hP : X.prog = P) (hw : X.w = w) : PE X (.Dict [] [] pos) (tNNew P w) := by
  subst hP hw
  exact pe_nnew
theorem ps_nputC {P : Program} {w : World} (hP : X.prog = P) (hw : X.w = w) {j : Nat} (hr : Room j X.A) (ho : PE X o td) (hi : PE X i ty) (hv : PE X value tv) (hs : swapsWith value (some (.Subscript o i pos')) pos.line X.env = pure false := by rfl) :
    PS X (.Assign [.Subscript o i pos'] value pos) (sNPut P w td ty tv) := by
  subst hP hw
  exact ps_nput hr ho hi hv hs
/-! ### the keys, walked -/
def Itn (P : Program) (w : World) (d : Addr) (o : Obj) (es : List EN) : It :=
  ⟨fun i H => (H d = some (.frz o (dN P w d es)) ∧ NDict P w H d es) ∧ i < es.length, fun i H x H' => H' = H ∧ ∃ e, es[i]? = some e ∧ x = .ref e.2.1, fun i H => (H d = some (.frz o (dN P w d es)) ∧ NDict P w H d es) ∧ es.length ≤ i⟩
theorem Inv.frzN {pins : List (Addr × Obj)} {σ : L2.St} {H : Hp} {s : Shared} {d : Addr} {o : Obj} {es : List EN} (I : Inv X pins σ H s) (h : H d = some (.frz o (dN X.prog X.w d es))) :
    s.heap.get? d = some o ∧ o.ExactDict ∧ ∃ (ens : Array DictEntry) (ep : Nat), o.data = .dict ens ep ∧ ens.size = es.length ∧ ∀ (i : Nat) (e : EN), es[i]? = some e → ∃ en : DictEntry, ens[i]? = some en ∧ en.key = .ref e.2.1 := by
  obtain ⟨hd, z⟩ := (show s.heap.get? d = some o ∧ ObjOk X.prog X.w H s.heap d (dN X.prog X.w d es) from I.hok d _ h)
  obtain ⟨o', ens, ep, e1, e2, e3, e4⟩ := dN_at z
  rw [hd] at e1
  cases e1
  refine ⟨hd, e2, ens, ep, e3, ?_, fun i e he => ?_⟩
  · have l := congrArg List.length e4
    simpa using l
  · have q := entry_at e4 i
    rw [List.getElem?_map, he] at q
    exact ⟨_, q, rfl⟩
end
section
variable {P : Program} {w : World} {K : PySem.W.Frag} {tg : Expr} {d : Addr} {o : Obj} {ens : Array DictEntry} {ep : Nat}
theorem turn_keysN {es : List EN} (it : Addr) (hod : o.data = .dict ens ep) : Turn P w K tg (Itn P w d o es) [it] it (fun i h => h.IsKeyIter it d i es.length ep) where
  mem := by simp
  obj := fun i h st b hb => by
    have e : b = it := by simpa using hb
    subst e
    obtain ⟨oi, e, c, dd⟩ := st
    exact ⟨oi, e, fun v z => by rw [dd] at z; cases z⟩
  keep := fun i h h' st k => st.at fun oi e => k it (by simp) oi e
  item := by
    intro X hP hw hK hc i pins s σ H E I hf st hg
    subst hP hw hK
    obtain ⟨⟨hd, N⟩, hi⟩ := hg
    obtain ⟨f0, f1, f2, f3, f4, f5⟩ := hf it (by simp)
    obtain ⟨hgd, hx, es', ep', hdt, hsz, ent⟩ := Inv.frzN I hd
    obtain ⟨rfl, rfl⟩ := dict_ep hod hdt
    obtain ⟨e, he⟩ : ∃ p, es[i]? = some p := ⟨es[i], List.getElem?_eq_getElem hi⟩
    obtain ⟨en, hen, hkey⟩ := ent i e he
    refine next_key_item st hgd hdt hsz hen fun h' st' sb => ?_
    have I1 : Inv X pins σ H { s with heap := h' } := I.turned (t' := s.toks) (fun b ob hb e => (sb.2 b hb).trans e) f0 f1 f3 f4 f5
    obtain ⟨oi, e1, c, dd⟩ := id st'
    exact ⟨en.key, rfl, go_of (s := { s with heap := h' }) e1 c dd (by decide) ⟨.ref e.2.1, H, I1, hkey, ⟨rfl, e, he, rfl⟩, st', fun b hb => (hf b hb).1⟩⟩
  done := by
    intro X hP hw hK hc i pins s σ H E I hf st hg
    subst hP hw hK
    obtain ⟨⟨hd, N⟩, hi⟩ := hg
    obtain ⟨f0, f1, f2, f3, f4, f5⟩ := hf it (by simp)
    obtain ⟨hgd, hx, es', ep', hdt, hsz, ent⟩ := Inv.frzN I hd
    obtain ⟨rfl, rfl⟩ := dict_ep hod hdt
    exact next_key_end (I.ok.hd hc) st hgd hdt hsz hi fun h' eb => ⟨rfl, I.turned (t' := s.toks) (fun b ob hb e => eb b ob hb e) f0 f1 f3 f4 f5⟩
  self := fun A i s Q E st h => by
    refine wpAny_pyIter_slot st.typeIs F.slot_dict_keyiterator_iter (wpAny_call_entry F.slot_dict_keyiterator_iter st.typeIs F.entry_dict_keyiterator_iter ?_ (F.args_dict_keyiterator_iter_1 _))
    show wpAny _ _ (ret (.ref it)) _ _ s
    exact wpAny_pure ⟨_, rfl, "dict_keyiterator", _, st.typeIs, F.slot_dict_keyiterator_next.lookup, h⟩
end
def iNKeys (P : Program) (w : World) (td : TE) : TI := fun σ H R => td σ H fun x H1 => ∃ (d : Addr) (o : Obj) (es : List EN), x = .ref d ∧ H1 d = some (.frz o (dN P w d es)) ∧ NDict P w H1 d es ∧ R (Itn P w d o es) H1
section
variable {X : Cx} {tg e : Expr} {td : TE}
theorem pi_nkeys (he : PE X e td) : PI X tg e (iNKeys X.prog X.w td) := by
  refine ⟨fun pins s σ H R I h => ?_⟩
  refine thn (he.run pins s σ H _ I h) fun u s1 ⟨x, H1, I1, rx, d, o, es, ex, hd, N, q⟩ => ?_
  subst ex
  obtain rfl : u = Value.ref d := rx
  obtain ⟨hgd, hx, ens, ep, hdt, hsz, ent⟩ := Inv.frzN I1 hd
  refine iter_keys N.sys hgd hx hdt (pi_one (tk := s1.toks) I1 _ (turn_keysN _ hdt) ⟨_, Heap.get?_push_size _ rfl, rfl, ?_⟩ q)
  rw [hsz] <;> rfl
end
theorem lc_n {P : Program} {w : World} {d : Addr} {o : Obj} {es : List EN} {g : TG} {tt : TT} {te : TE} {vs : List Nat} {σ : L2.St} {H1 : Hp} {D : Addr} {Qd : Hp → Prop} (Pv : Nat → Hp → Prop) (h0 : Pv 0 (L2.upd H1 D (.lst [])))
    (hl : ∀ i H, i ≤ es.length → Pv i H → H d = some (.frz o (dN P w d es)) ∧ NDict P w H d es)
    (hs : ∀ i e H, es[i]? = some e → Pv i H → g (.ref e.2.1) (wipe σ vs) H fun σ2 H2 => wipe σ2 vs = wipe σ vs ∧ tt σ2 H2 fun b H3 =>
      if b = true then te σ2 H3 fun y H4 => ∃ acc, H4 D = some (.lst acc) ∧ acc.length < sizeLine ∧ Pv (i + 1) (L2.upd H4 D (.lst (acc ++ [y]))) else Pv (i + 1) H3) (hd : ∀ H, Pv es.length H → Qd H) :
    ∃ W : Nat → Nat → Hp → Prop, (∃ m, W 0 m (L2.upd H1 D (.lst []))) ∧ ∀ i m H, W i m H →
      ((Itn P w d o es).stop i H ∧ Qd H) ∨ ((Itn P w d o es).go i H ∧ ∃ Nx : Hp → Prop, (∀ H', Nx H' → ∃ m', m' < m ∧ W (i + 1) m' H') ∧ ∀ x H', (Itn P w d o es).yld i H x H' → g x (wipe σ vs) H' fun σ2 H2 => wipe σ2 vs = wipe σ vs ∧ tt σ2 H2 fun b H3 =>
        if b = true then te σ2 H3 fun y H4 => ∃ acc, H4 D = some (.lst acc) ∧ acc.length < sizeLine ∧ Nx (L2.upd H4 D (.lst (acc ++ [y]))) else Nx H3) := by
  refine ⟨fun i m H => m = es.length - i ∧ i ≤ es.length ∧ Pv i H, ⟨es.length, by simp, Nat.zero_le _, h0⟩, ?_⟩
  rintro i m H ⟨rfl, hi, p⟩
  have q := hl i H hi p
  by_cases hlt : i < es.length
  · refine .inr ⟨⟨q, hlt⟩, Pv (i + 1), fun H' p' => ⟨es.length - (i + 1), by omega, rfl, hlt, p'⟩, fun x H' y => ?_⟩
    obtain ⟨e, en, he, rfl⟩ := y
    subst e
    exact hs i en _ he p
  · have e : i = es.length := by omega
    subst e
    exact .inl ⟨⟨q, Nat.le_refl _⟩, hd H p⟩
end Nm

/-! sorted(xs, key=lambda of a pair of a fraction and a number). -/
namespace Nm
open PySem PySem.Spec PyProof.Rows L2 LamX
section
variable {prog : Program} {w : World} {A : Around} {E : Value → Shared → Prop} {env : Env} {s : Shared} {Q : Value → Shared → Prop}
theorem sub_tup {value : Expr} {i : Int} {ii : Nat} {j : Nat} {a : Addr} {items : Array Value} {x : Value} {p1 p2 : Pos} (hv : wpAny (model prog w) A (eval value env) (fun o s1 => o = .ref a ∧ IsTup s1.heap a items ∧ Q x { s1 with toks := s1.toks + 1 }) E s)
    (hi : -(2 ^ 63) ≤ i) (hi2 : i < 2 ^ 63) (hj : seqIndex? i items.size = some j) (hx : items[j]? = some x) : wpAny (model prog w) A (eval (.Subscript value (.Constant (.int i) ii p1) p2) env) Q E s := by
  refine Subscript_ (wpAny_mono hv (fun o s1 h => ?_) fun _ _ h => h)
  obtain ⟨rfl, ht, h⟩ := h
  refine wpAny_Constant_int ?_
  have ht' : IsTup ({ s1 with toks := s1.toks + 1 } : Shared).heap a items := ht
  exact subscriptTail_builtinR (x := x) ht'.typeIs slot_tuple_getitem.lookup (getItem_tuple (j := j) (Q := fun r s' => r = x ∧ Q r s') ht' hi hi2 hj hx ⟨rfl, h⟩)
/-- the body of the lambda, at the pair a -/
theorem key_body {key every : Str} {a q cc : Addr} {m : Str → Option Value} {n t u k : Int} {tn tt tu tk : Tok} {i1 i2 i3 i4 i5 i6 : Nat} {p1 p2 p3 p4 p5 p6 p7 p8 p9 p10 p11 p12 p13 p14 p15 p16 p17 : Pos}
    (hk : env.scope.kind = .function) (hl : env.kindOf key = some .local) (he : env.kindOf every = some .free) (hn : s.heap.Ns env.locals m) (hm : m key = some (.ref a)) (hc : env.cells.lookup every = some cc) (hcell : s.heap.IsCell cc (some (.int n tn)))
    (ha : IsTup s.heap a #[.ref q, .int k tk]) (hq : IsTup s.heap q #[.int t tt, .int u tu]) (hu : 0 < u ∧ u < 1073741824) (hmul : CMul t (n.fdiv u))
    (h : ∀ t1 tk', Q (.ref s.heap.objs.size) { s with heap := s.heap.push { cls := .type "tuple", data := .seq #[.int (t * n.fdiv u) t1, .int k tk] }, toks := tk' }) (d1 : (key == ("__debug__" : Str)) = false := by decide) (d2 : (every == ("__debug__" : Str)) = false := by decide) (d3 : (every == ("__classdict__" : Str)) = false := by decide) :
    wpAny (model prog w) A (eval (.Tuple [.BinOp (.Subscript (.Subscript (.Name key p1) (.Constant (.int 0) i1 p2) p3) (.Constant (.int 0) i2 p4) p5) .Mult (.BinOp (.Name every p6) .FloorDiv (.Subscript (.Subscript (.Name key p7) (.Constant (.int 0) i3 p8) p9) (.Constant (.int 1) i4 p10) p11) p12) p13,
      .Subscript (.Name key p14) (.Constant (.int 1) i5 p15) p16] i6 p17) env) Q E s := by
  have hkey : ∀ (tk0 : Nat) (p : Pos) (R : Value → Shared → Prop), R (.ref a) { s with toks := tk0 } → wpAny (model prog w) A (eval (.Name key p) env) R E { s with toks := tk0 } := fun tk0 p R r =>
    wpAny_Name (wpAny_loadName_local hk hl (s := { s with toks := tk0 }) hn hm r) d1
  have hq0 : ∀ (tk0 : Nat) (i : Nat) (p p' p'' : Pos) (R : Value → Shared → Prop), R (.ref q) { s with toks := tk0 + 1 } → wpAny (model prog w) A (eval (.Subscript (.Name key p) (.Constant (.int 0) i p') p'') env) R E { s with toks := tk0 } := fun tk0 i p p' p'' R r =>
    sub_tup (a := a) (j := 0) (hkey tk0 p _ ⟨rfl, ha, r⟩) (by decide) (by decide) rfl rfl
  refine wpAny_Tuple_spliced ?_
  refine Calls.spliced_cons (wpAny_BinOp (sub_tup (a := q) (j := 0) (hq0 s.toks i1 p1 p2 p3 _ ⟨rfl, hq, ?_⟩) (by decide) (by decide) rfl rfl))
  refine wpAny_BinOp (wpAny_Name (wpAny_loadName_free hk he hc hcell ?_ d3) d2)
  refine sub_tup (a := q) (j := 1) (hq0 _ i3 p7 p8 p9 _ ⟨rfl, hq, ?_⟩) (by decide) (by decide) rfl rfl
  refine floordiv_int (by omega) ?_ (.inl (PyProof.noPylong_small (by omega)))
  refine mul_int ?_ hmul.ok
  refine Calls.spliced_cons (sub_tup (a := a) (j := 1) (hkey _ p14 _ ⟨rfl, ha, ?_⟩) (by decide) (by decide) rfl rfl)
  refine Calls.spliced_nil ⟨by show 2 ≤ sizeLine; decide, ?_⟩
  exact h _ _
end
section
variable {prog : Program} {w : World} {A : Around} {s : Shared}
/-- a call of it -/
theorem key_call {qual : Str} {params : Arguments} {body : Expr} {scope : Scope} {clos : List (Str × Addr)} {pm ctv : Value} {c' f a : Addr} {key : Str} {d : PyData} (hdep : A.depth < recursionLimit) (hno : s.heap.NoLimit)
    (hf : s.heap.get? f = some (PySem.W.kla_obj "<lambda>" qual params body scope clos pm c' ctv)) (hcode : s.heap.CodeRec (.ref c') qual) (hk : scope.kind = .function) (hco : scope.isCoroutine = false) (hgen : scope.isGenerator = false)
    (hcell : ∀ y ∈ scope.names, y.2 ≠ .cell) (hloc : scope.names.lookup key = some .local) (hbind : bindArgs (PySem.W.kla_fn "<lambda>" qual params body scope clos pm (.ref c') ctv) ⟨[.ref a], []⟩ = pure [(key, .ref a)])
    (hbody : ∀ (h₁ : Heap) (tk : Nat), (∀ b o, s.heap.get? b = some o → h₁.get? b = some o) → h₁.Ns s.heap.objs.size (fun x => [(key, Value.ref a)].reverse.lookup x) →
      ∀ (E : Value → Shared → Prop) (Q : Value → Shared → Prop), (∀ v h2 tk', (∀ b o, h₁.get? b = some o → h2.get? b = some o) → Reads h2 v d [] → Q v { s with heap := h2, toks := tk' }) →
      wpAny (model prog w) (A.deeper (PySem.W.envX qual scope s.heap.objs.size f (.ref c') clos)) (eval body (PySem.W.envX qual scope s.heap.objs.size f (.ref c') clos)) Q E { s with heap := h₁, toks := tk }) :
    wpAny (model prog w) A (call (.ref f) [.ref a]) (PySem.W.KeyPure d s) (fun _ _ => False) s := by
  refine wpAny_call (PySem.W.kla_callFunE hdep hf rfl hco hgen rfl hcode ?_)
  rw [hbind]
  refine wpAny_pure (wpAny_newFunctionEnv hcell (fun y hy => ?_) (fun h₁ hns hsb => ⟨hno.fresh _ hsb, ?_⟩) hk)
  · have e : y = (key, Value.ref a) := by simpa using hy
    rw [e]
    exact hloc
  have kp : ∀ b o, s.heap.get? b = some o → h₁.get? b = some o := fun b o e => hsb.extBut b o (Nat.ne_of_lt (Heap.lt_size e)) (Heap.get?_push_of_some _ e)
  refine PySem.W.kla_codeExpr ?_
  refine hbody h₁ _ kp hns _ _ fun v h2 tk' kp2 hr => ?_
  exact ⟨h2, tk', rfl, fun b o e => kp2 b o (kp b o e), hr⟩
end
/-! ### the rule -/
/-- nothing but a table stands there -/
def New (H : Hp) (p : Addr) : Prop := ∀ o, H p = some o → ∃ ps, o = .tbl ps
abbrev EK := (Int × Int × Int) × Addr
def KeyAt (H : Hp) (k : Int × Int × Int) (a : Addr) : Prop := ∃ qa, H a = some (.tup [.ref qa, .int k.2.2]) ∧ H qa = some (.tup [.int k.1, .int k.2.1])
def kw (n : Int) (e : EK) : Int := e.1.1 * n.fdiv e.1.2.1
def kLe (n : Int) (p q : EK) : Bool := decide (kw n p < kw n q ∨ (kw n p = kw n q ∧ p.1.2.2 ≤ q.1.2.2))
def tSortKey (K : PySem.W.Frag) (T : List (Addr × Str)) (i : Nat) (te : TE) : TE := fun σ H Q => te σ H fun x H1 => ∃ (l : Addr) (ks : List EK) (n : Int), x = .ref l ∧ H1 l = some (.lst (ks.map fun e => .ref e.2)) ∧ σ[i]? = some (some (.int n)) ∧ Tabs T H1 ∧
  (∀ e ∈ ks, KeyAt H1 e.1 e.2 ∧ (0 < e.1.2.1 ∧ e.1.2.1 < 1073741824) ∧ CMul e.1.1 (n.fdiv e.1.2.1)) ∧ ks.length ≤ 1000 ∧
  ∀ D H2, ExtN H1 H2 → Tabs T H2 → New H1 D → H2 D = some (.lst ((ks.mergeSort (kLe n)).map fun e => .ref e.2)) → Q (.ref D) H2
section
variable {X : Cx}
theorem pair_at {P : Program} {w : World} {H : Hp} {h : Heap} {a : Addr} {xs : List V} (hok : HOk P w H h) (e : H a = some (.tup xs)) : ∃ us, Vals xs us ∧ IsTup h a us.toArray := by
  obtain ⟨_, us, r, o, ho, hc, n, hd⟩ := (show ObjOk P w H h a (.tup xs) from hok a _ e)
  exact ⟨us, r, o, ho, hc, n, hd⟩
theorem vals_each {out : List Value} {ms : List EK} (eo : PySem.W.EachIs (fun (v : Value) (e : EK) => v = .ref e.2) out ms) : Vals (ms.map fun e => V.ref e.2) out := by
  induction eo with
  | nil => exact .nil
  | cons h _ ih => exact .cons h ih
theorem codeAt {P : Program} {w : World} {H : Hp} {h : Heap} {c : Addr} {q : Str} (hok : HOk P w H h) (e : H c = some (CodeO c q)) : h.CodeRec (.ref c) q := by
  obtain ⟨⟨oc, vs, t, h1, h2, h3⟩, _, _⟩ := hok c _ e
  exact ⟨c, oc, vs, t, rfl, h1, h2, h3⟩
theorem pe_sortKey {T : List (Addr × Str)} {i j : Nat} {te : TE} {c P : Addr} {params : Arguments} {scope : Scope} {e : Expr} {key every : Str} {i1 i2 i3 i4 i5 i6 : Nat} {p1 p2 p3 p4 p5 p6 p7 p8 p9 p10 p11 p12 p13 p14 p15 p16 p17 lpos kpos p pos : Pos}
    (hr : Room j X.A) (hg : Gl X "sorted") (hm : X.mg "sorted" = none) (ha : PE X e te) (TB : TabB X.base X.mg c P) (hcode : X.env.code = .ref c) (hmT : (P, X.env.qual ++ "<lambda>") ∈ T) (hu : ∀ p ∈ T, p.1 = P → p.2 = X.env.qual ++ "<lambda>")
    (hdef : defaultsOf params X.env = ([], [])) (hN : X.N[i]? = some every) (hcl : X.env.scope.names.lookup every = some .cell) (hk : scope.kind = .function) (hco : scope.isCoroutine = false) (hgen : scope.isGenerator = false)
    (hcell : ∀ y ∈ scope.names, y.2 ≠ .cell) (hfr : ∀ y ∈ scope.names, y.2 = .free → y.1 = every) (hloc : scope.names.lookup key = some .local) (hev : scope.names.lookup every = some .free)
    (hbind : ∀ (q : Str) (body : Expr) (cl : List (Str × Addr)) (pm cv ctv : Value) (a : Addr), bindArgs (PySem.W.kla_fn "<lambda>" q params body scope cl pm cv ctv) ⟨[.ref a], []⟩ = pure [(key, .ref a)])
    (d1 : (key == ("__debug__" : Str)) = false := by decide) (d2 : (every == ("__debug__" : Str)) = false := by decide) (d3 : (every == ("__classdict__" : Str)) = false := by decide)
    (he : backTo pos (starEach [e] X.env) = (false, eval e X.env) :: backTo pos (starEach [] X.env) := by rfl) (hpl : (backTo pos (starEach [e] X.env)).any (·.1) = false := by rfl) :
    PE X (.Call (.Name "sorted" p) [e] [⟨some "key", .Lambda params (.Tuple [.BinOp (.Subscript (.Subscript (.Name key p1) (.Constant (.int 0) i1 p2) p3) (.Constant (.int 0) i2 p4) p5) .Mult (.BinOp (.Name every p6) .FloorDiv (.Subscript (.Subscript (.Name key p7) (.Constant (.int 0) i3 p8) p9) (.Constant (.int 1) i4 p10) p11) p12) p13,
      .Subscript (.Name key p14) (.Constant (.int 1) i5 p15) p16] i6 p17) scope lpos, kpos⟩] pos) (tSortKey X.K T i te) := by
  refine ⟨fun pins s σ H Q I h => ?_⟩
  refine wpAny_Call_Name_kw (ld_blt (u := .builtin "sorted") I hg hm (by decide +kernel) ?_)
  refine callWith_kw ?_ he hpl (by rfl) (by rfl)
  rw [he]
  refine Calls.spliced_cons (thn (ha.run pins s σ H _ I h) fun u s1 ⟨x, H1, I1, r1, l, ks, n, ex, hl, hσ, hT, hks, hlen, q⟩ => ?_)
  subst ex
  obtain rfl : u = Value.ref l := r1
  refine Calls.spliced_nil ?_
  have hfree : ∀ y ∈ scope.names, y.2 = .free → ∃ c, X.env.cells.lookup y.1 = some c := fun y hy e => by
    rw [hfr y hy e]
    exact I.ok.has _ (.inl hcl)
  refine kws_cons (lam_make2 I1 TB hcode hmT hu hT hdef hfree fun f c' pm ctv H2 s2 I2 eN T2 hf hfn hfrs hco2 => kws_nil ?_)
  show wpAny (model X.prog X.w) X.A (call (.builtin "sorted") [.ref l] [(Str.ofString "key", .ref f)]) _ _ s2
  have hl2 : H2 l = some (.lst (ks.map fun e => .ref e.2)) := eN _ _ hl (fun _ z => nomatch z)
  obtain ⟨its, rv, pl, hz⟩ := I2.list (SqL.of hl2)
  -- the cell
  obtain ⟨m, hn, hlk⟩ := I2.loc
  obtain ⟨u, ru, lu⟩ := hlk i every (.int n) hN hσ (.inr (.inl hcl))
  obtain ⟨tn, rfl⟩ := (show ∃ t, u = Value.int n t from ru)
  obtain ⟨cc, hcc, hcellv⟩ : ∃ cc, X.env.cells.lookup every = some cc ∧ s2.heap.IsCell cc (some (.int n tn)) := by
    rcases lu with ⟨k', _⟩ | ⟨_, c3, e', z⟩
    · have k' : X.env.scope.names.lookup every = some .local := k'
      rw [hcl] at k'
      cases k'
    · exact ⟨c3, e', z⟩
  have hclo : (cloFrom X.env.cells scope.names []).lookup every = some cc := by
    have hy : (every, NameKind.free) ∈ scope.names := PySem.mem_of_lookup hev
    obtain ⟨c2, h2⟩ := mem_lookup (cloFrom_has (cells := X.env.cells) (acc := []) hy)
    rcases cloFrom_mem (PySem.mem_of_lookup h2) with hm | ⟨_, h3⟩
    · cases hm
    · rw [h2, h3, hcc] <;> rfl
  have eks : PySem.W.EachIs (fun (v : Value) (e : EK) => v = .ref e.2) its ks := by
    have rv' := rv
    clear hlen hks q hl hl2 rv pl hz
    induction ks generalizing its with
    | nil =>
      cases rv'
      exact .nil
    | cons e ks ih =>
      cases rv' with
      | cons r1 r2 => exact .cons r1 (ih _ r2)
  have facts : ∀ e ∈ ks, ∃ (qa : Addr) (t1 t2 t3 : Tok), IsTup s2.heap e.2 #[.ref qa, .int e.1.2.2 t1] ∧ IsTup s2.heap qa #[.int e.1.1 t2, .int e.1.2.1 t3] := fun e he => by
    obtain ⟨⟨qa, h1, h2⟩, _, _⟩ := hks e he
    obtain ⟨us, v1, p1⟩ := pair_at I2.hok (eN _ _ h1 (fun _ z => nomatch z))
    obtain ⟨us2, v2, p2⟩ := pair_at I2.hok (eN _ _ h2 (fun _ z => nomatch z))
    obtain ⟨w1, w2, rfl, r1, r2⟩ := vals2 v1
    obtain ⟨w3, w4, rfl, r3, r4⟩ := vals2 v2
    obtain rfl : w1 = Value.ref qa := r1
    obtain ⟨t1, rfl⟩ := (show ∃ t, w2 = Value.int e.1.2.2 t from r2)
    obtain ⟨t2, rfl⟩ := (show ∃ t, w3 = Value.int e.1.1 t from r3)
    obtain ⟨t3, rfl⟩ := (show ∃ t, w4 = Value.int e.1.2.1 t from r4)
    exact ⟨qa, t1, t2, t3, p1, p2⟩
  refine PySem.W.sorted_key_data (b := false) (fun e : EK => .tuple [.int (kw n e), .int e.1.2.2]) pl.isList eks (PySem.W.AllAlike.of fun _ _ => by simp [PySem.W.alike, PySem.W.alikeAll]) (PySem.W.Sortable.tuples fun _ => ⟨_, _, rfl⟩) (Nat.le_trans hlen (by decide)) (fun e _ => ?_) (ksk_s1 _ _) (fun _ => ksk_l1 _ _) (fun _ => ksk_t1 _ _)
    (fun v e rve he' h tk kp => ?_) fun out cx h' tk kp fresh hD len eo => ?_
  · have hd : (PyData.tuple [.int (kw n e), .int e.1.2.2]).depth = 1 := by simp [PyData.depth, PyData.depthAll]
    have := hr.units
    omega
  · have rve : v = .ref e.2 := rve
    subst rve
    obtain ⟨qa, t1, t2, t3, p1, p2⟩ := facts e he'
    obtain ⟨_, hb, hmul⟩ := hks e he'
    refine key_call (s := { s2 with heap := h, toks := tk }) (key := key) (hr.depth) (I2.nolimit.keeps kp) (kp _ _ hf) ((codeAt I2.hok hco2).keeps kp) hk hco hgen hcell hloc (hbind _ _ _ _ _ _ _) fun h₁ tk1 kp1 hns E Q hq => ?_
    refine key_body (tn := tn) (tt := t2) (tu := t3) (tk := t1) (a := e.2) (q := qa) (cc := cc) (m := _) (n := n) (t := e.1.1) (u := e.1.2.1) (k := e.1.2.2) hk hloc hev hns ?_ hclo ?_ ((p1.keeps kp).keeps kp1) ((p2.keeps kp).keeps kp1) hb hmul (fun t1 tk' => hq _ _ _ (fun b o e => Heap.get?_push_of_some _ e) ?_) d1 d2 d3
    · simp
    · obtain ⟨o, ho, hd⟩ := hcellv
      exact ⟨o, kp1 _ _ (kp _ _ ho), hd⟩
    · exact .tuple (Heap.get?_push_size _ rfl) rfl rfl (.cons (.int _ _) (.cons (.int _ _) .nil))
  · rw [PySem.W.dataLe_ii (β := EK) (fun p => kw n p) (fun p => p.1.2.2)] at eo
    have eo : PySem.W.EachIs (fun (v : Value) (e : EK) => v = .ref e.2) out (ks.mergeSort (kLe n)) := eo
    have vo := vals_each eo
    have nD : H2 (s2.heap.objs.size + 1) = none := I2.hok.fresh (Nat.le_succ _)
    have up : ∀ b o, H2 b = some o → L2.upd H2 (s2.heap.objs.size + 1) (.lst ((ks.mergeSort (kLe n)).map fun e => V.ref e.2)) b = some o := fun b o z => by
      rw [upd_ne (ne_of_none z nD)]
      exact z
    refine ⟨.ref _, L2.upd H2 (s2.heap.objs.size + 1) (.lst ((ks.mergeSort (kLe n)).map fun e => V.ref e.2)), I2.laid (t' := tk) kp (Nat.le_succ _) ⟨?_, out, cx, vo, hD⟩, rfl, q _ _ (eN.trans (ExtN.of up)) (T2.ext up) ?_ upd_same⟩
    · rw [List.length_map, List.length_mergeSort]
      exact Nat.le_trans hlen (by decide)
    · intro o z
      by_cases q : ∃ ps, o = .tbl ps
      · exact q
      · have := eN _ _ z fun ps e => q ⟨ps, e⟩
        rw [nD] at this
        cases this
end
end Nm

/-! _law_ordered: pairs (q, k) in ascending order. -/
namespace Nm
open PySem PySem.Spec PyProof.Rows L2 LamX
abbrev sOrdered : Stmt := topS 30
/-! ### the order -/
def QU (k : Int × Int × Int) : Prop := QF k.1 k.2.1 ∧ 0 ≤ k.2.2 ∧ k.2.2 ≤ 3
def ltK (a b : Int × Int × Int) : Prop := a.1 * b.2.1 < b.1 * a.2.1 ∨ (a.1 * b.2.1 = b.1 * a.2.1 ∧ a.2.2 < b.2.2)
def divs : List Int := [1, 2, 3, 4, 6, 12]
theorem lcm_ok : ∀ n ∈ divs, ∀ u ∈ [(1 : Int), 2, 3, 4], 0 < (Int.gcd n u : Int) ∧ (Int.gcd n u : Int) < 1073741824 ∧ n * u / (Int.gcd n u : Int) ∈ divs ∧ n * u / (Int.gcd n u : Int) % u = 0 ∧ ∀ v ∈ [(1 : Int), 2, 3, 4], n % v = 0 → n * u / (Int.gcd n u : Int) % v = 0 := by decide +kernel
theorem mem4 {u : Int} (h1 : 1 ≤ u) (h4 : u ≤ 4) : u ∈ [(1 : Int), 2, 3, 4] := by
  have : u = 1 ∨ u = 2 ∨ u = 3 ∨ u = 4 := by omega
  rcases this with rfl | rfl | rfl | rfl <;> simp
theorem divs_b {n : Int} (h : n ∈ divs) : 0 < n ∧ n ≤ 12 := by
  unfold divs at h
  simp only [List.mem_cons, List.not_mem_nil, or_false] at h
  rcases h with rfl | rfl | rfl | rfl | rfl | rfl <;> decide
theorem dvd_cop {u t v : Int} (h : u ∣ t * v) (g : Int.gcd t u = 1) : u ∣ v := by
  have z := Int.natAbs_dvd_natAbs.mpr h
  rw [Int.natAbs_mul] at z
  exact Int.natAbs_dvd_natAbs.mp (Nat.Coprime.dvd_of_dvd_mul_left (show Nat.gcd u.natAbs t.natAbs = 1 by rw [Nat.gcd_comm]; exact g) z)
theorem low_eq {t u t' u' : Int} (h : t * u' = t' * u) (g : Int.gcd t u = 1) (g' : Int.gcd t' u' = 1) (hu : 0 < u) (hu' : 0 < u') : t = t' ∧ u = u' := by
  have d1 : u ∣ u' := by
    exact dvd_cop (t := t) ⟨t', by rw [h, Int.mul_comm]⟩ g
  have d2 : u' ∣ u := by
    exact dvd_cop (t := t') ⟨t, by rw [← h, Int.mul_comm]⟩ g'
  have e : u = u' := by
    have := Int.le_of_dvd hu' d1
    have := Int.le_of_dvd hu d2
    omega
  subst e
  exact ⟨Int.eq_of_mul_eq_mul_right (by omega) h, rfl⟩
/-- the sort's places go as the fractions' worths -/
theorem kw_cmp {n t u t' u' : Int} (hn : 0 < n) (hu : 0 < u) (hu' : 0 < u') (d : n % u = 0) (d' : n % u' = 0) : (t * n.fdiv u < t' * n.fdiv u' → t * u' < t' * u) ∧ (t * n.fdiv u = t' * n.fdiv u' → t * u' = t' * u) := by
  rw [Int.fdiv_eq_ediv_of_nonneg n (by omega), Int.fdiv_eq_ediv_of_nonneg n (by omega)]
  have e : u * (n / u) = n := Int.mul_ediv_cancel_of_emod_eq_zero d
  have e' : u' * (n / u') = n := Int.mul_ediv_cancel_of_emod_eq_zero d'
  generalize n / u = a at *
  generalize n / u' = b at *
  have x1 : t * a * (u * u') = t * u' * n := by rw [← e]; simp only [Int.mul_assoc, Int.mul_comm, Int.mul_left_comm]
  have x2 : t' * b * (u * u') = t' * u * n := by rw [← e']; simp only [Int.mul_assoc, Int.mul_comm, Int.mul_left_comm]
  have p : 0 < u * u' := Int.mul_pos hu hu'
  constructor
  · intro h
    have z := Int.mul_lt_mul_of_pos_right h p
    rw [x1, x2] at z
    exact Int.lt_of_mul_lt_mul_right z (Int.le_of_lt hn)
  · intro h
    rw [h] at x1
    rw [x1] at x2
    exact Int.eq_of_mul_eq_mul_right (by omega) x2
theorem kLe_trans (n : Int) : ∀ a b c : EK, kLe n a b = true → kLe n b c = true → kLe n a c = true := by
  intro a b c h1 h2
  unfold kLe at *
  simp only [decide_eq_true_eq] at *
  omega
theorem kLe_total (n : Int) : ∀ a b : EK, (kLe n a b || kLe n b a) = true := by
  intro a b
  unfold kLe
  simp only [Bool.or_eq_true, decide_eq_true_eq]
  omega
theorem sort_ok {ks : List EK} {n : Int} (hn : 0 < n) (hq : ∀ e ∈ ks, QU e.1 ∧ n % e.1.2.1 = 0) (nd : (ks.map (·.1)).Nodup) : (ks.mergeSort (kLe n)).Perm ks ∧ (ks.mergeSort (kLe n)).Pairwise (fun p q => ltK p.1 q.1) := by
  have hp := List.mergeSort_perm ks (kLe n)
  refine ⟨hp, ?_⟩
  have s1 := List.pairwise_mergeSort (kLe_trans n) (kLe_total n) ks
  have s2 : (ks.mergeSort (kLe n)).Pairwise (fun p q => p.1 ≠ q.1) := by
    have z : ((ks.mergeSort (kLe n)).map (·.1)).Nodup := (hp.map _).nodup_iff.mpr nd
    exact List.pairwise_map.mp z
  refine (s1.and s2).imp_of_mem fun {p q} h1 h2 ⟨h, ne⟩ => ?_
  obtain ⟨⟨⟨a1, a2, a3, _, _⟩, _, _⟩, d1⟩ := hq p (hp.mem_iff.mp h1)
  obtain ⟨⟨⟨b1, b2, b3, _, _⟩, _, _⟩, d2⟩ := hq q (hp.mem_iff.mp h2)
  obtain ⟨c1, c2⟩ := kw_cmp (t := p.1.1) (t' := q.1.1) hn (by omega) (by omega) d1 d2
  unfold kLe at h
  simp only [decide_eq_true_eq] at h
  rcases h with h | ⟨h, hk⟩
  · exact .inl (c1 h)
  · have e := c2 h
    obtain ⟨e1, e2⟩ := low_eq e a3 b3 (by omega) (by omega)
    refine .inr ⟨e, ?_⟩
    have : p.1.2.2 ≠ q.1.2.2 := fun z => ne (Prod.ext e1 (Prod.ext e2 z))
    omega
/-! ### a def whose code object is known -/
structure FunC (K : PySem.W.Frag) (x qual : Str) (st : Stmt) (f : Addr) (fd : FuncData) (c : Addr) : Prop where
  ex : ∃ (oc : Value) (od : Option Addr) (kV doc pm : Value) (an : Option Addr) (ct : Value) (osl : Array (Option Value)),
    fd = PySem.W.fnOf x qual (defArgs st) (defBody st) (defScope st) .none kV doc pm an (.ref c) ct ∧ K.lookup f = some ⟨oc, od, .func fd, osl⟩ ∧ PySem.W.codeIn K (.ref c) qual = true
  kp : PySem.W.keepIn K (.ref f) = true
section
variable {P : Program} {w : World} {K : PySem.W.Frag} {mg : Str → Option Value} {base : Heap}
theorem FunC.to {x qual : Str} {st : Stmt} {f c : Addr} {fd : FuncData} (F : FunC K x qual st f fd c) : Fun K x qual st f fd := by
  obtain ⟨⟨oc, od, kV, doc, pm, an, ct, osl, rfl, lk, hcd⟩, kp⟩ := F
  exact ⟨⟨oc, od, kV, doc, pm, an, .ref c, ct, osl, rfl, lk, hcd⟩, kp⟩
theorem FunC.ok {x qual : Str} {st : Stmt} {f c : Addr} {fd : FuncData} {N ps : List Str} {k : Nat} {sp : Sp} (F : FunC K x qual st f fd c) (S : FnScope N ps (defScope st)) (len : ∀ vs H Q E, sp vs H Q E → vs.length = ps.length)
    (hbody : ∀ (A : Around) (outer : List Env) (s : Shared) (H : Hp) (vs : List V) (Q : VK) (E : XK), Room k (A.deeper (envOfC qual (defScope st) s.heap.objs.size f (.ref c))) → sp vs H Q E →
      ∃ t, PSs (cxOf CX0 P w K mg base N qual (defScope st) f (.ref c) A outer s H E).nox (defBody st) t ∧ t { nx := fun _ H' => Q .non H', rt := Q } (L2.start N vs) H) : FnOk P w K mg base CX0 (k + 1) f fd ps sp := by
  obtain ⟨oc, od, kV, doc, pm, an, ct, osl, rfl, lk, hcd⟩ := F.ex
  refine fn_of lk hcd S len fun A outer s H vs Q E hr hsp => ?_
  obtain ⟨t, h, q⟩ := hbody A outer s H vs Q E hr hsp
  exact ⟨t, h.nox, q⟩
/-! ### _law_ordered -/
def lamName : Str := ("_law_ordered" ++ ".<locals>.") ++ "<lambda>"
abbrev LT (c : Addr) : List (Addr × Str) := [(c, lamName)]
def spOrdered (T : List (Addr × Str)) : Sp := fun vs H Q _ => ∃ (l : Addr) (ks : List EK), vs = [.ref l] ∧ H l = some (.lst (ks.map fun e => .ref e.2)) ∧ Tabs T H ∧ (∀ e ∈ ks, KeyAt H e.1 e.2 ∧ QU e.1) ∧ (ks.map (·.1)).Nodup ∧ ks.length ≤ 1000 ∧
  ∀ (D : Addr) (H' : Hp) (ms : List EK), ExtN H H' → Tabs T H' → New H D → H' D = some (.lst (ms.map fun e => .ref e.2)) → ms.Perm ks → ms.Pairwise (fun p q => ltK p.1 q.1) → Q (.ref D) H'
structure OrdT (P : Program) (w : World) (K : PySem.W.Frag) (mg : Str → Option Value) (base : Heap) where
  fC : Addr
  fdC : FuncData
  FC : FnOk P w K mg base CX0 1 fC fdC ["_law_one", "_law_other"] spCommon
  bC : Binds K fdC ["_law_one", "_law_other"] []
  gC : mg "_law_common" = some (.ref fC)
  kC : PySem.W.keepIn K (.ref fC) = true
  sorted : mg "sorted" = none
theorem scOrdered : FnScope ["_law_keys", "_law_q_here", "_law_k", "_law_every"] ["_law_keys"] (defScope sOrdered) := ⟨rfl, rfl, rfl, by decide +kernel, rfl, by decide +kernel, by decide +kernel⟩
theorem ok_ordered {f c t : Addr} {fd : FuncData} (F : FunC K "_law_ordered" "_law_ordered" sOrdered f fd c) (T : OrdT P w K mg base) (TB : TabB base mg c t) : FnOk P w K mg base CX0 2 f fd ["_law_keys"] (spOrdered (LT t)) := by
  refine F.ok scOrdered (fun vs H Q E h => ?_) (fun A outer s H vs Q E hr h => ?_)
  · obtain ⟨l, ks, rfl, _⟩ := h
    rfl
  · obtain ⟨l, ks, rfl, hl, hT, hks, nd, hlen, q⟩ := h
    refine ⟨_, pss_cons (ps_set (i := 3) scOrdered.nd rfl (.inr rfl) pe_int)
      (pss_cons (ps_for PassesOwn.never rfl (pi_list (pv 0)) (pg_tup rfl (pgs_cons (pg_name (i := 1) scOrdered.nd rfl (.inl rfl)) (pgs_cons (pg_name (i := 2) scOrdered.nd rfl (.inl rfl)) pgs_nil)))
        (pss_one (ps_set (i := 3) scOrdered.nd rfl (.inr rfl) (pe_op op_fdiv (pe_op op_mul (pv 3) (pe_ix ix_tup (pv 1) pe_int (fun _ _ => rfl))) (pe_call T.FC hr (by rfl) T.gC T.kC T.bC .nil pass0 (pa_cons (pv 3) (pa_cons (pe_ix ix_tup (pv 1) pe_int (fun _ _ => rfl)) pa_nil)))))))
      (pss_one (ps_ret (pe_sortKey (i := 3) (T := LT t) (c := c) (P := t) hr (by rfl) T.sorted (pv 0) TB rfl (List.mem_singleton.mpr rfl) (fun p hp _ => by rw [List.mem_singleton.mp hp]; rfl) rfl rfl rfl rfl rfl rfl (by decide +kernel) (by decide +kernel) (by rfl) (by rfl) (fun _ _ _ _ _ _ _ => rfl))))), ?_⟩
    refine ⟨_, rfl, l, rfl, ⟨_, SqL.of hl⟩, ?_⟩
    refine for_list (K := K) (a := l) (xs := ks.map fun e => .ref e.2) (fun i σ H2 => H2 = H ∧ ∃ (x y : Option V) (n : Int), σ = [some (.ref l), x, y, some (.int n)] ∧ n ∈ divs ∧ ∀ e ∈ ks.take i, n % e.1.2.1 = 0)
      ⟨rfl, _, _, 1, rfl, by decide, fun e he => by simp at he⟩ (fun i σ H2 _ h2 => by obtain ⟨rfl, _⟩ := h2; exact SqL.of hl) (fun i x σ H2 hx h2 => ?_) (fun σ H2 h2 => ?_)
    · obtain ⟨rfl, y, z, n, rfl, hn, hd⟩ := h2
      rw [List.getElem?_map] at hx
      cases he : ks[i]? with
      | none => rw [he] at hx; cases hx
      | some e =>
        rw [he] at hx
        obtain rfl : V.ref e.2 = x := Option.some.inj hx
        have hem : e ∈ ks := List.mem_of_getElem? he
        obtain ⟨⟨qa, k1, k2⟩, ⟨u1, u2, _⟩, _⟩ := hks e hem
        obtain ⟨g1, g2, g3, g4, g5⟩ := lcm_ok n hn e.1.2.1 (mem4 u1 u2)
        obtain ⟨n1, n2⟩ := divs_b hn
        refine ⟨e.2, _, rfl, SqT.of k1, rfl, _, _, rfl, _, _, rfl, rfl, ?_⟩
        refine ⟨_, rfl, _, rfl, qa, _, 1, .int e.1.2.1, rfl, rfl, SqT.of k2, rfl, n, e.1.2.1, rfl, rfl, .inl ⟨by omega, by omega⟩, ?_⟩
        refine ⟨_, rfl, _, rfl, qa, _, 1, .int e.1.2.1, rfl, rfl, SqT.of k2, rfl, ?_⟩
        refine ⟨n, e.1.2.1, rfl, ?_⟩
        refine ⟨n * e.1.2.1, (Int.gcd n e.1.2.1 : Int), rfl, rfl, ⟨g1, g2⟩, ?_⟩
        refine ⟨rfl, _, _, _, rfl, g3, fun e' he' => ?_⟩
        rw [List.take_add_one, he] at he'
        rcases List.mem_append.mp he' with h3 | h3
        · obtain ⟨⟨v1, v2, _⟩, _⟩ := (hks e' (List.mem_of_mem_take h3)).2
          exact g5 _ (mem4 v1 v2) (hd e' h3)
        · obtain rfl : e' = e := by simpa using h3
          exact g4
    · obtain ⟨rfl, y, z, n, rfl, hn, hd⟩ := h2
      rw [List.length_map, List.take_length] at hd
      obtain ⟨n1, n2⟩ := divs_b hn
      obtain ⟨s1, s2⟩ := sort_ok n1 (fun e he => ⟨(hks e he).2, hd e he⟩) nd
      refine ⟨_, rfl, l, ks, n, rfl, hl, rfl, hT, fun e he => ?_, hlen, fun D H3 x1 x2 x3 x4 => q D H3 _ x1 x2 x3 x4 s1 s2⟩
      obtain ⟨k, ⟨u1, u2, u3, u4, u5⟩, _⟩ := hks e he
      exact ⟨k, ⟨by omega, by omega⟩, .inl ⟨by omega, by omega⟩⟩
end
end Nm

/-! _law_terms: the terms of a dict from pairs (q, k) to fractions. -/
namespace Nm
open PySem PySem.Spec PyProof.Rows L2 LamX
abbrev sTerms : Stmt := topS 31
theorem perm_lift {α β : Type} {f : α → β} : ∀ {m : List β} {l : List α}, m.Perm (l.map f) → ∃ l' : List α, l'.Perm l ∧ l'.map f = m
  | [], l, h => by
    have z : l = [] := List.map_eq_nil_iff.mp h.nil_eq.symm
    subst z
    exact ⟨[], .nil, rfl⟩
  | b :: m, l, h => by
    obtain ⟨a, ha, rfl⟩ := List.mem_map.mp (h.mem_iff.mp List.mem_cons_self)
    obtain ⟨s, t, rfl⟩ := List.append_of_mem ha
    have h2 : m.Perm ((s ++ t).map f) := by
      have z : ((s ++ a :: t).map f).Perm (f a :: (s ++ t).map f) := List.perm_middle.map f
      exact (h.trans z).cons_inv
    obtain ⟨l', p, e⟩ := perm_lift h2
    exact ⟨a :: l', (p.cons a).trans List.perm_middle.symm, by rw [List.map_cons, e]⟩
def TmAt (H0 H' : Hp) (t : Addr) (e : EN) : Prop := New H0 t ∧ ∃ qa, H' t = some (.tup [.ref e.2.2, .int e.1.2.2, .ref qa]) ∧ H0 e.2.1 = some (.tup [.ref qa, .int e.1.2.2]) ∧ H0 qa = some (.tup [.int e.1.1, .int e.1.2.1])
def spTerms (P : Program) (w : World) (T : List (Addr × Str)) : Sp := fun vs H Q _ => ∃ (d : Addr) (es : List EN) (val : EN → Int × Int), vs = [.ref d] ∧ H d = some (dN P w d es) ∧ NDict P w H d es ∧ Tabs T H ∧
  (∀ e ∈ es, QU e.1 ∧ H e.2.2 = some (.tup [.int (val e).1, .int (val e).2])) ∧
  ∀ (D : Addr) (H' : Hp) (rs : List (Addr × EN)), ExtN H H' → Tabs T H' → New H D → H' D = some (.tup (rs.map fun r => .ref r.1)) → (rs.map (·.2)).Perm (es.filter fun e => decide ((val e).1 ≠ 0)) →
    (rs.map (·.2)).Pairwise (fun p q => ltK p.1 q.1) → (∀ r ∈ rs, TmAt H H' r.1 r.2) → Q (.ref D) H'
section
variable {P : Program} {w : World} {K : PySem.W.Frag} {mg : Str → Option Value} {base : Heap}
structure TrmT (P : Program) (w : World) (K : PySem.W.Frag) (mg : Str → Option Value) (base : Heap) (t : Addr) where
  fO : Addr
  fdO : FuncData
  FO : FnOk P w K mg base CX0 2 fO fdO ["_law_keys"] (spOrdered (LT t))
  bO : Binds K fdO ["_law_keys"] []
  gO : mg "_law_ordered" = some (.ref fO)
  kO : PySem.W.keepIn K (.ref fO) = true
  tuple : mg "tuple" = none
theorem scTerms : FnScope ["_law_parts", "_law_left", "_law_key"] ["_law_parts"] (defScope sTerms) := ⟨rfl, rfl, rfl, by decide +kernel, rfl, by decide +kernel, by decide +kernel⟩
theorem New.of {H H1 : Hp} {p : Addr} (e : ExtN H H1) (n : New H1 p) : New H p := fun o h => by
  by_cases q : ∃ ps, o = .tbl ps
  · exact q
  · exact n o (e _ _ h fun ps z => q ⟨ps, z⟩)
theorem New.none {H : Hp} {p : Addr} (h : H p = none) : New H p := fun o z => by
  rw [h] at z
  cases z
theorem ok_terms {f t : Addr} {fd : FuncData} (F : Fun K "_law_terms" "_law_terms" sTerms f fd) (T : TrmT P w K mg base t) : FnOk P w K mg base CX0 3 f fd ["_law_parts"] (spTerms P w (LT t)) := by
  refine F.ok scTerms (fun vs H Q E h => ?_) (fun cdv A outer s H vs Q E hr h => ?_)
  · obtain ⟨d, es, val, rfl, _⟩ := h
    rfl
  · obtain ⟨d, es, val, rfl, hd, N, hT, hes, q⟩ := h
    refine ⟨_, pss_cons (ps_lock (ps_setLc (i := 1) (own := [("_law_key", 2)]) (g := gName 2) (by rfl) scTerms.nd rfl rfl (sw_true rfl rfl rfl (by decide +kernel)) (pi_nkeys (pv 0))
          (blkOk_by (N := ["_law_parts", "_law_left", "_law_key"]) (sc := defScope sTerms) (by decide +kernel)) (fun _ _ _ _ _ => pg_name (i := 2) scTerms.nd rfl (Or.inl rfl))
          (fun _ _ _ _ _ => pts_one (pt_cmpR op_ne (pe_ix (ix_tupC (K := K) (by rfl)) (pe_ngetC (P := P) (w := w) (by rfl) (by rfl) (by exact hr) (pv 0) (pv 2) (fun _ _ => rfl)) pe_int (fun _ _ => rfl)) pe_int (nomark _)))
          (fun _ _ _ _ _ => pv 2)))
      (pss_one (ps_ret (pe_callTy call_tuple_of (by rfl) T.tuple (by decide +kernel) (pa_cons
        (pe_lc (own := [("_law_key", 2)]) (g := gName 2) (tt := tYes) rfl scTerms.nd (pi_list (pe_call T.FO hr (by rfl) T.gO T.kO T.bO .nil pass0 (pa_cons (pv 1) pa_nil))) (blkOk_by (N := ["_law_parts", "_law_left", "_law_key"]) (sc := defScope sTerms) (by decide +kernel))
          (fun _ _ _ _ _ => pg_name (i := 2) scTerms.nd rfl (Or.inl rfl)) (fun _ _ _ _ _ => pts_nil)
          (fun _ _ _ _ _ => pe_tup (pa_cons (pe_ngetC (P := P) (w := w) (by rfl) (by rfl) (by exact hr) (pv 0) (pv 2) (fun _ _ => rfl)) (pa_cons (pe_ix (ix_tupC (K := K) (by rfl)) (pv 2) pe_int (fun _ _ => rfl)) (pa_cons (pe_ix (ix_tupC (K := K) (by rfl)) (pv 2) pe_int (fun _ _ => rfl)) pa_nil))))) pa_nil)))), ?_⟩
    refine ⟨d, dN P w d es, hd, dN_mut, fun od => ?_⟩
    obtain ⟨H1, eH1⟩ : ∃ H1, H1 = L2.upd H d (.frz od (dN P w d es)) := ⟨_, rfl⟩
    have N1 : NDict P w H1 d es := by rw [eH1]; exact N.lock hd
    have hd1 : H1 d = some (.frz od (dN P w d es)) := by rw [eH1, upd_same]
    have o1 : ∀ c, c ≠ d → H1 c = H c := fun c hc => by rw [eH1, upd_ne hc]
    rw [← eH1]
    refine ⟨_, rfl, d, od, es, rfl, hd1, N1, fun D hD => ?_⟩
    have nDd : D ≠ d := (ne_of_none hd1 hD).symm
    have fD : H D = none := by rw [← o1 D nDd]; exact hD
    have tupd : ∀ c xs, H c = some (.tup xs) → c ≠ d ∧ c ≠ D := fun c xs h => ⟨ne_of h hd (fun z => nomatch z), ne_of_none h fD⟩
    have up1 : ∀ (xs : List V) c ys, H c = some (.tup ys) → L2.upd H1 D (.lst xs) c = some (.tup ys) := fun xs c ys h => by
      obtain ⟨a, b⟩ := tupd c ys h
      rw [upd_ne b, o1 c a]
      exact h
    have N2 : ∀ xs : List V, NDict P w (L2.upd H1 D (.lst xs)) d es := fun xs => N.keep (.inr ⟨od, by rw [upd_ne nDd.symm]; exact hd1⟩) (up1 xs)
    refine lc_n (P := P) (w := w) (d := d) (o := od) (es := es) (fun i H2 => H2 = L2.upd H1 D (.lst (((es.take i).filter fun e => decide ((val e).1 ≠ 0)).map fun e => .ref e.2.1))) rfl (fun i H2 _ h2 => by
      rw [h2]
      exact ⟨by rw [upd_ne nDd.symm]; exact hd1, N2 _⟩) (fun i e H2 he h2 => ?_) (fun H2 h2 => ?_)
    · subst h2
      have hem : e ∈ es := List.mem_of_getElem? he
      obtain ⟨qa, k1, k2⟩ := N.key e hem
      obtain ⟨_, hv⟩ := hes e hem
      have ti : es.take (i + 1) = es.take i ++ [e] := by rw [List.take_add_one, he]; rfl
      refine ⟨rfl, _, rfl, _, rfl, d, es, e, e.2.1, qa, rfl, rfl, N2 _, hem, up1 _ _ _ k1, up1 _ _ _ k2, ?_⟩
      refine ⟨e.2.2, _, 0, .int (val e).1, rfl, rfl, SqT.of (up1 _ _ _ hv), rfl, rfl, _, rfl, ?_⟩
      refine ite2 (fun c => ?_) (fun c => ?_)
      · have c' : decide ((val e).1 ≠ 0) = true := by simpa using c
        refine ⟨_, rfl, _, upd_same, ?_, ?_⟩
        · refine Nat.lt_of_le_of_lt (m := 1000) ?_ (by decide)
          rw [List.length_map]
          exact Nat.le_trans (List.length_filter_le _ _) (by rw [List.length_take]; have := N.len; omega)
        · show L2.upd (L2.upd H1 D _) D _ = _
          have z : [e].filter (fun e => decide ((val e).1 ≠ 0)) = [e] := List.filter_cons_of_pos (p := fun e => decide ((val e).1 ≠ 0)) c'
          rw [upd_upd, ti, List.filter_append, List.map_append, z]
          rfl
      · have c' : ¬ decide ((val e).1 ≠ 0) = true := by simpa using c
        show L2.upd H1 D _ = _
        have z : [e].filter (fun e => decide ((val e).1 ≠ 0)) = [] := List.filter_cons_of_neg (p := fun e => decide ((val e).1 ≠ 0)) c'
        rw [ti, List.filter_append, z, List.append_nil]
    · rw [List.take_length] at h2
      obtain ⟨kept, ekept⟩ : ∃ kept, kept = es.filter fun e => decide ((val e).1 ≠ 0) := ⟨_, rfl⟩
      rw [← ekept] at h2
      have kin : ∀ e ∈ kept, e ∈ es := fun e he => by rw [ekept] at he; exact (List.mem_filter.mp he).1
      obtain ⟨H3, eH3⟩ : ∃ H3, H3 = L2.upd H2 d (dN P w d es) := ⟨_, rfl⟩
      have hD3 : H3 D = some (.lst (kept.map fun e => .ref e.2.1)) := by rw [eH3, upd_ne nDd, h2, upd_same]
      have hd3 : H3 d = some (dN P w d es) := by rw [eH3, upd_same]
      have s3 : Same H H3 := fun c o h => by
        by_cases hc : c = d
        · rw [hc] at h ⊢
          rw [hd3, ← h]
          exact hd.symm
        · rw [eH3, upd_ne hc, h2, upd_ne (ne_of_none h fD), o1 c hc]
          exact h
      refine ⟨by rw [h2, upd_ne nDd.symm]; exact hd1, ?_⟩
      rw [← eH3]
      refine ⟨_, rfl, D, kept.map (fun e => (e.1, e.2.1)), rfl, by rw [List.map_map]; exact hD3, hT.ext s3, fun x hx => ?_, ?_, ?_, fun D2 H4 ms0 x1 x2 x3 x4 pm pw => ?_⟩
      · obtain ⟨e, he, rfl⟩ := List.mem_map.mp hx
        obtain ⟨qa, k1, k2⟩ := N.key e (kin e he)
        exact ⟨⟨qa, s3 _ _ k1, s3 _ _ k2⟩, (hes e (kin e he)).1⟩
      · rw [List.map_map]
        have z : ((fun e : EK => e.1) ∘ fun e : EN => (e.1, e.2.1)) = fun e : EN => e.1 := rfl
        rw [z, ekept]
        exact N.nd.sublist (List.filter_sublist.map _)
      · rw [List.length_map, ekept]
        exact Nat.le_trans (List.length_filter_le _ _) N.len
      · obtain ⟨ms, pms, rfl⟩ := perm_lift pm
        rw [List.map_map] at x4
        have pw2 : ms.Pairwise (fun p q => ltK p.1 q.1) := (List.pairwise_map (f := fun e : EN => ((e.1, e.2.1) : EK)) (R := fun p q : EK => ltK p.1 q.1)).mp pw
        have e4 : ExtN H H4 := (ExtN.of s3).trans x1
        have tup4 : ∀ c xs, H c = some (.tup xs) → H4 c = some (.tup xs) := fun c xs h => e4 _ _ h (fun _ z => nomatch z)
        have N4 : NDict P w H4 d es := N.keep (.inl (e4 _ _ hd (fun _ z => nomatch z))) tup4
        have hms : ∀ e ∈ ms, e ∈ es := fun e he => kin e (pms.mem_iff.mp he)
        have lms : ms.length ≤ 1000 := by
          rw [pms.length_eq, ekept]
          exact Nat.le_trans (List.length_filter_le _ _) N.len
        refine ⟨D2, rfl, ⟨_, SqL.of x4⟩, fun D3 hD3' => ?_⟩
        refine lc_list (K := K) (a := D2) (xs := ms.map fun e => .ref e.2.1) (fun i H5 => ∃ rs : List (Addr × EN), rs.map (·.2) = ms.take i ∧ H5 D3 = some (.lst (rs.map fun r => .ref r.1)) ∧ Same H4 H5 ∧ ∀ r ∈ rs, TmAt H H5 r.1 r.2)
          ⟨[], rfl, upd_same, same_upd hD3', fun _ h => nomatch h⟩ (fun i H5 _ ⟨rs, _, _, s5, _⟩ => SqL.of (s5 _ _ x4)) (fun i x H5 hx ⟨rs, r1, r2, s5, r3⟩ => ?_) (fun H5 ⟨rs, r1, r2, s5, r3⟩ => ?_)
        · rw [List.getElem?_map] at hx
          cases he : ms[i]? with
          | none => rw [he] at hx; cases hx
          | some e =>
            rw [he] at hx
            obtain rfl : V.ref e.2.1 = x := Option.some.inj hx
            have hem := hms e (List.mem_of_getElem? he)
            obtain ⟨qa, k1, k2⟩ := N.key e hem
            have l1 := s5 _ _ (tup4 _ _ k1)
            have l2 := s5 _ _ (tup4 _ _ k2)
            refine ⟨rfl, ?_⟩
            unfold tYes
            dsimp only
            rw [if_pos rfl]
            refine ⟨_, rfl, _, rfl, d, es, e, e.2.1, qa, rfl, rfl, N4.keep (.inl (s5 _ _ (e4 _ _ hd (fun _ z => nomatch z)))) (fun c xs h => s5 _ _ h), hem, l1, l2, ?_⟩
            refine ⟨_, rfl, e.2.1, _, 1, .int e.1.2.2, rfl, rfl, SqT.of l1, rfl, ?_⟩
            refine ⟨_, rfl, e.2.1, _, 0, .ref qa, rfl, rfl, SqT.of l1, rfl, (by show 3 ≤ sizeLine; decide), fun t' nt => ?_⟩
            obtain ⟨H6, eH6⟩ : ∃ H6, H6 = L2.upd H5 t' (.tup [.ref e.2.2, .int e.1.2.2, .ref qa]) := ⟨_, rfl⟩
            rw [← eH6]
            have s6 : Same H5 H6 := by rw [eH6]; exact same_upd nt
            have ht6 : H6 t' = some (.tup [.ref e.2.2, .int e.1.2.2, .ref qa]) := by rw [eH6, upd_same]
            have n3 : t' ≠ D3 := (ne_of_none r2 nt).symm
            refine ⟨_, s6 _ _ r2, ?_, rs ++ [(t', e)], ?_, ?_, ?_, ?_⟩
            · have z := congrArg List.length r1
              rw [List.length_map, List.length_take] at z
              rw [List.length_map]
              exact Nat.lt_of_le_of_lt (show rs.length ≤ 1000 by omega) (by decide)
            · rw [List.map_append, r1, List.take_add_one, he]
              rfl
            · rw [upd_same, List.map_append]
              rfl
            · exact fun c o h => by
                rw [upd_ne (ne_of_none h hD3')]
                exact s6 _ _ (s5 _ _ h)
            · intro r hr'
              have keep : ∀ c xs, H6 c = some (.tup xs) → L2.upd H6 D3 (.lst ((rs.map fun r => V.ref r.1) ++ [V.ref t'])) c = some (.tup xs) := fun c xs h => by
                rw [upd_ne (ne_of h (s6 _ _ r2) (fun z => nomatch z))]
                exact h
              rcases List.mem_append.mp hr' with hr' | hr'
              · obtain ⟨a1, qb, a2, a3, a4⟩ := r3 r hr'
                exact ⟨a1, qb, keep _ _ (s6 _ _ a2), a3, a4⟩
              · obtain rfl : r = (t', e) := by simpa using hr'
                exact ⟨New.of (e4.trans (ExtN.of s5)) (New.none nt), qa, keep _ _ ht6, k1, k2⟩
        · rw [List.length_map, List.take_length] at r1
          refine ⟨D3, _, rfl, .inl ⟨SqL.of r2, fun l nl => ?_⟩⟩
          have s6 : Same H5 (L2.upd H5 l (.tup (rs.map fun r => .ref r.1))) := same_upd nl
          refine q l _ rs (e4.trans ((ExtN.of s5).trans (ExtN.of s6))) ((x2.ext s5).ext s6) (New.of (e4.trans (ExtN.of s5)) (New.none nl)) upd_same ?_ ?_ fun r hr' => ?_
          · rw [r1, ← ekept]
            exact pms
          · rw [r1]
            exact pw2
          · obtain ⟨a1, qb, a2, a3, a4⟩ := r3 r hr'
            exact ⟨a1, qb, s6 _ _ a2, a3, a4⟩
end
end Nm

/-! _law_curve: the terms of a drawn curve. -/
namespace Nm
open PySem PySem.Spec PyProof.Rows L2 LamX
abbrev sCurve : Stmt := topS 37
/-! ### terms as data -/
/-- (c, k, q) -/
abbrev Tm := (Int × Int) × Int × Int × Int
def Tm.key (t : Tm) : Int × Int × Int := (t.2.2.1, t.2.2.2, t.2.1)
def tmD (t : Tm) : PyData := .tuple [.tuple [.int t.1.1, .int t.1.2], .int t.2.1, .tuple [.int t.2.2.1, .int t.2.2.2]]
def cvD (ts : List Tm) : PyData := .tuple (ts.map tmD)
def TmOk (t : Tm) : Prop := CF t.1.1 t.1.2 ∧ QU t.key
def CvOk (ts : List Tm) : Prop := (∀ t ∈ ts, TmOk t) ∧ ts.Pairwise (fun p q => ltK p.key q.key)
/-- all but the bag's two lists and tables of code objects is as it was -/
def KT (b g : Addr) (H H' : Hp) : Prop := ∀ c o, H c = some o → c ≠ b → c ≠ g → (∀ ps, o ≠ .tbl ps) → H' c = some o
theorem KT.refl {b g : Addr} (H : Hp) : KT b g H H := fun _ _ h _ _ _ => h
theorem KT.trans {b g : Addr} {H H1 H2 : Hp} (x : KT b g H H1) (y : KT b g H1 H2) : KT b g H H2 := fun c o h n1 n2 n3 => y c o (x c o h n1 n2 n3) n1 n2 n3
theorem KT.of {b g : Addr} {H H' : Hp} (x : ExtN H H') : KT b g H H' := fun c o h _ _ n => x c o h n
theorem KT.ofB {b g : Addr} {H H' : Hp} (x : KeptB b g H H') : KT b g H H' := fun c o h n1 n2 _ => x c o h n1 n2
section
variable {b g c : Addr} {n : Nat} {H H' : Hp}
theorem BagAt.ne_lst (B : BagAt H b g n) : (∃ xs, H b = some (.lst xs)) ∧ ∃ xs, H g = some (.lst xs) := by
  obtain ⟨_, ⟨_, _, _, h1, _⟩, _, h2, _⟩ := B
  exact ⟨⟨_, h1⟩, ⟨_, h2⟩⟩
theorem BagAt.off2 (B : BagAt H b g n) {o : HO} (h : H c = some o) (no : ∀ xs, o ≠ .lst xs) : c ≠ b ∧ c ≠ g := by
  obtain ⟨⟨xs, h1⟩, ys, h2⟩ := B.ne_lst
  exact ⟨fun z => by rw [z, h1] at h; exact no xs (Option.some.inj h).symm, fun z => by rw [z, h2] at h; exact no ys (Option.some.inj h).symm⟩
theorem KeptB.tup (k : KeptB b g H H') (B : BagAt H b g n) {xs : List V} (h : H c = some (.tup xs)) : H' c = some (.tup xs) := by
  obtain ⟨n1, n2⟩ := B.off2 h (fun _ z => nomatch z)
  exact k c _ h n1 n2
theorem KT.tup (k : KT b g H H') (B : BagAt H b g n) {xs : List V} (h : H c = some (.tup xs)) : H' c = some (.tup xs) := by
  obtain ⟨n1, n2⟩ := B.off2 h (fun _ z => nomatch z)
  exact k c _ h n1 n2 (fun _ z => nomatch z)
theorem BagAt.ext (B : BagAt H b g n) (e : ExtN H H') : BagAt H' b g n := by
  obtain ⟨ne, ⟨seed, c, al, h1, h2⟩, gs, h3, h4⟩ := B
  exact ⟨ne, ⟨seed, c, al, e _ _ h1 (fun _ z => nomatch z), h2⟩, gs, e _ _ h3 (fun _ z => nomatch z), h4⟩
theorem Tabs.keptB {T : List (Addr × Str)} (t : Tabs T H) (k : KeptB b g H H') (B : BagAt H b g n) : Tabs T H' := fun p hp => by
  obtain ⟨ps, h1, h2, h3⟩ := t p hp
  have off : ∀ {c : Addr} {o : HO}, H c = some o → (∀ xs, o ≠ .lst xs) → H' c = some o := fun {c o} h no => by
    obtain ⟨n1, n2⟩ := B.off2 h no
    exact k c o h n1 n2
  refine ⟨ps, off h1 (fun _ z => nomatch z), h2, fun pos cv hc => ?_⟩
  obtain ⟨c, e1, e2⟩ := h3 pos cv hc
  refine ⟨c, e1, off e2 fun xs z => ?_⟩
  unfold CodeO at z
  cases z
theorem New.ofB (B : BagAt H' b g n) (k : KeptB b g H H') (x : New H' c) : New H c := fun o h => by
  obtain ⟨⟨xs, h1⟩, ys, h2⟩ := B.ne_lst
  have n1 : c ≠ b := fun z => by
    obtain ⟨ps, e⟩ := x _ (by rw [z]; exact h1)
    cases e
  have n2 : c ≠ g := fun z => by
    obtain ⟨ps, e⟩ := x _ (by rw [z]; exact h2)
    cases e
  exact x o (k c o h n1 n2)
end
/-! ### what stands while a curve is drawn -/
def QA (H0 H : Hp) (q : Addr) : Prop := H0 q = none ∧ ∃ t u, H q = some (.tup [.int t, .int u]) ∧ QF t u
def CA (H0 H : Hp) (q : Addr) : Prop := H0 q = none ∧ ∃ t u, H q = some (.tup [.int t, .int u]) ∧ CF t u
structure Cv (P : Program) (w : World) (b g d l : Addr) (n : Nat) (H0 H : Hp) (i : Nat) : Prop where
  bag : BagAt H b g n
  kb : KeptB b g H0 H
  few : ∃ q1 q2 q3, H l = some (.lst [.ref q1, .ref q2, .ref q3]) ∧ QA H0 H q1 ∧ QA H0 H q2 ∧ QA H0 H q3
  dict : ∃ es, H d = some (dN P w d es) ∧ NDict P w H d es ∧ es.length ≤ i ∧ ∀ e ∈ es, QU e.1 ∧ CA H0 H e.2.2 ∧ ∀ qa k, H e.2.1 = some (.tup [.ref qa, k]) → H0 qa = none
  dn : H0 d = none
  ln : H0 l = none
  lo : l ≠ b ∧ l ≠ g
section
variable {P : Program} {w : World} {b g d l : Addr} {n m : Nat} {H0 H H' : Hp} {i : Nat}
theorem QA.keep {q : Addr} (x : QA H0 H q) (k : KeptB b g H H') (B : BagAt H b g n) : QA H0 H' q := by
  obtain ⟨x1, t, u, x2, x3⟩ := x
  exact ⟨x1, t, u, k.tup B x2, x3⟩
theorem CA.keep {q : Addr} (x : CA H0 H q) (k : KeptB b g H H') (B : BagAt H b g n) : CA H0 H' q := by
  obtain ⟨x1, t, u, x2, x3⟩ := x
  exact ⟨x1, t, u, k.tup B x2, x3⟩
theorem Cv.keep (c : Cv P w b g d l n H0 H i) (k : KeptB b g H H') (B' : BagAt H' b g m) : Cv P w b g d l m H0 H' i := by
  obtain ⟨B, kb, ⟨q1, q2, q3, f1, f2, f3, f4⟩, ⟨es, d1, d2, d3, d4⟩, dn, ln, lo⟩ := c
  have dd : H' d = some (dN P w d es) := by
    obtain ⟨n1, n2⟩ := B.off2 d1 (fun xs z => by unfold dN at z; cases z)
    exact k _ _ d1 n1 n2
  refine ⟨B', kb.trans k, ⟨q1, q2, q3, k _ _ f1 lo.1 lo.2, f2.keep k B, f3.keep k B, f4.keep k B⟩, ⟨es, dd, d2.keep (.inl dd) (fun c xs h => k.tup B h), d3, fun e he => ?_⟩, dn, ln, lo⟩
  obtain ⟨e1, e2, e3⟩ := d4 e he
  refine ⟨e1, e2.keep k B, fun qa kk h => ?_⟩
  obtain ⟨qb, k1, k2⟩ := d2.key e he
  have z := k.tup B k1
  rw [z] at h
  have h2 : [V.ref qb, V.int e.1.2.2] = [V.ref qa, kk] := by
    have z := Option.some.inj h
    injection z
  simp only [List.cons.injEq, V.ref.injEq, and_true] at h2
  rw [← h2.1]
  exact e3 qb _ k1
theorem Cv.mono (c : Cv P w b g d l n H0 H i) {j : Nat} (h : i ≤ j) : Cv P w b g d l n H0 H j := by
  obtain ⟨B, kb, f, ⟨es, d1, d2, d3, d4⟩, r1, r2, r3⟩ := c
  exact ⟨B, kb, f, ⟨es, d1, d2, by omega, d4⟩, r1, r2, r3⟩
theorem Cv.store (c : Cv P w b g d l n H0 H i) {es : List EN} {k : Int × Int × Int} {ka qa va : Addr} (hd : H d = some (dN P w d es)) (N : NDict P w H d es) (hl : es.length ≤ i) (hi : i < 1000)
    (hes : ∀ e ∈ es, QU e.1 ∧ CA H0 H e.2.2 ∧ ∀ qa k, H e.2.1 = some (.tup [.ref qa, k]) → H0 qa = none) (h1 : H ka = some (.tup [.ref qa, .int k.2.2])) (h2 : H qa = some (.tup [.int k.1, .int k.2.1])) (hk : QU k) (hq : H0 qa = none) (hv : CA H0 H va) :
    Cv P w b g d l n H0 (L2.upd H d (dN P w d (putE es k ka va))) (i + 1) := by
  have N2 := N.put (va := va) hd (by omega) h1 h2
  have up : ∀ x xs, H x = some (.tup xs) → L2.upd H d (dN P w d (putE es k ka va)) x = some (.tup xs) := fun x xs q => by
    rw [upd_ne (ne_of q hd (fun z => nomatch z))]
    exact q
  have down : ∀ x xs ys, H x = some (.tup xs) → L2.upd H d (dN P w d (putE es k ka va)) x = some (.tup ys) → xs = ys := fun x xs ys q r => by
    rw [up x xs q] at r
    have z := Option.some.inj r
    injection z
  have upC : ∀ x, CA H0 H x → CA H0 (L2.upd H d (dN P w d (putE es k ka va))) x := fun x ⟨a1, t, u, a2, a3⟩ => ⟨a1, t, u, up _ _ a2, a3⟩
  have upQ : ∀ x, QA H0 H x → QA H0 (L2.upd H d (dN P w d (putE es k ka va))) x := fun x ⟨a1, t, u, a2, a3⟩ => ⟨a1, t, u, up _ _ a2, a3⟩
  obtain ⟨B, kb, ⟨q1, q2, q3, f1, f2, f3, f4⟩, _, dn, ln, lo⟩ := c
  obtain ⟨n1, n2⟩ := B.off2 hd (fun xs z => by unfold dN at z; cases z)
  have nl : l ≠ d := ne_of f1 hd (fun z => by unfold dN at z; cases z)
  refine ⟨?_, fun c o h x1 x2 => ?_, ⟨q1, q2, q3, by rw [upd_ne nl]; exact f1, upQ _ f2, upQ _ f3, upQ _ f4⟩, ⟨_, upd_same, N2, ?_, fun e he => ?_⟩, dn, ln, lo⟩
  · exact B.upd n1.symm n2.symm
  · rw [upd_ne (ne_of_none h dn)]
    exact kb c o h x1 x2
  · have := put_len es k ka va
    omega
  · rcases put_mem he with rfl | ⟨e1, e2, v, hm⟩ | hm
    · refine ⟨hk, upC _ hv, fun qb kk h => ?_⟩
      have z := down _ _ _ h1 h
      simp only [List.cons.injEq, V.ref.injEq, and_true] at z
      rw [← z.1]
      exact hq
    · obtain ⟨a1, a2, a3⟩ := hes _ hm
      refine ⟨by rw [e1]; exact a1, by rw [e2]; exact upC _ hv, fun qb kk h => ?_⟩
      obtain ⟨qc, k1, _⟩ := N.key _ hm
      have z := down _ _ _ k1 h
      simp only [List.cons.injEq, V.ref.injEq, and_true] at z
      rw [← z.1]
      exact a3 _ _ k1
    · obtain ⟨a1, a2, a3⟩ := hes _ hm
      refine ⟨a1, upC _ a2, fun qb kk h => ?_⟩
      obtain ⟨qc, k1, _⟩ := N.key _ hm
      have z := down _ _ _ k1 h
      simp only [List.cons.injEq, V.ref.injEq, and_true] at z
      rw [← z.1]
      exact a3 _ _ k1
end
/-! ### the promise -/
def spCurve (T : List (Addr × Str)) : Sp := fun vs H Q _ => ∃ (b g : Addr) (n : Nat) (size : Int), vs = [.ref b, .int size] ∧ BagAt H b g n ∧ n < 999999900000 ∧ 0 ≤ size ∧ size ≤ 30 ∧ Tabs T H ∧
  ∀ (D : Addr) (H' : Hp) (ts : List Tm), CvOk ts → (ts.length : Int) ≤ size → KT b g H H' → Tabs T H' → BagAt H' b g (n + 500) → DS (New H) H' (.ref D) (cvD ts) → Q (.ref D) H'
section
variable {P : Program} {w : World} {K : PySem.W.Frag} {mg : Str → Option Value} {base : Heap}
structure CrvT (P : Program) (w : World) (K : PySem.W.Frag) (mg : Str → Option Value) (base : Heap) (t : Addr) extends NumT P w K mg base where
  fQ : Addr
  fdQ : FuncData
  fC : Addr
  fdC : FuncData
  fT : Addr
  fdT : FuncData
  FQ : FnOk P w K mg base CX0 3 fQ fdQ ["_law_bag_here"] spQ
  FC : FnOk P w K mg base CX0 3 fC fdC ["_law_bag_here"] spC
  FT : FnOk P w K mg base CX0 3 fT fdT ["_law_parts"] (spTerms P w (LT t))
  bQ : Binds K fdQ ["_law_bag_here"] []
  bC : Binds K fdC ["_law_bag_here"] []
  bT : Binds K fdT ["_law_parts"] []
  gQ : mg "_law_q" = some (.ref fQ)
  gC : mg "_law_c" = some (.ref fC)
  gT : mg "_law_terms" = some (.ref fT)
  kQ : PySem.W.keepIn K (.ref fQ) = true
  kC : PySem.W.keepIn K (.ref fC) = true
  kT : PySem.W.keepIn K (.ref fT) = true
  range : mg "range" = none
theorem scCurve : FnScope ["_law_bag_here", "_law_size", "_law_parts", "_law_few", "_law_turn", "_law_q_here"] ["_law_bag_here", "_law_size"] (defScope sCurve) := ⟨rfl, rfl, rfl, by decide +kernel, rfl, by decide +kernel, by decide +kernel⟩
theorem ok_curve {f t : Addr} {fd : FuncData} (F : Fun K "_law_curve" "_law_curve" sCurve f fd) (T : CrvT P w K mg base t) : FnOk P w K mg base CX0 4 f fd ["_law_bag_here", "_law_size"] (spCurve (LT t)) := by
  refine F.ok scCurve (fun vs H Q E h => ?_) (fun cdv A outer s H vs Q E hr h => ?_)
  · obtain ⟨b, g, n, size, rfl, _⟩ := h
    rfl
  · obtain ⟨b, g, n, size, rfl, B, hn, s0, s1, hT, q⟩ := h
    have hr2 : Room 2 _ := hr.mono (by decide)
    have hr1 : Room 1 _ := hr.mono (by decide)
    refine ⟨_, pss_cons (ps_par (i := 2) (j := 3) (by rfl) scCurve.nd rfl rfl (by decide) rfl rfl (pa_cons (pe_nnewC (P := P) (w := w) rfl rfl) (pa_cons (pe_lst (pa_cons (pe_call T.FQ hr (by rfl) T.gQ T.kQ T.bQ .nil pass0 (pa_cons (pv 0) pa_nil)) (pa_cons (pe_call T.FQ hr (by rfl) T.gQ T.kQ T.bQ .nil pass0 (pa_cons (pv 0) pa_nil))
          (pa_cons (pe_tup (pa_cons pe_int (pa_cons pe_int pa_nil))) pa_nil)))) pa_nil)) (by rfl))
      (pss_cons (ps_for PassesOwn.never rfl (pi_range1 rfl T.range (pa_cons (pe_call T.FP hr1 (by rfl) T.gP T.kP T.bP .nil pass0 (pa_cons (pv 0) (pa_cons (pe_op op_add (pv 1) pe_int) pa_nil))) pa_nil)) (pg_name (i := 4) scCurve.nd rfl (Or.inl rfl))
        (pss_cons (ps_set (i := 5) scCurve.nd rfl (.inl rfl) (pe_ifExp (pt_cmpR op_gt (pe_call T.FP hr1 (by rfl) T.gP T.kP T.bP .nil pass0 (pa_cons (pv 0) (pa_cons pe_int pa_nil))) pe_int (nomark _))
            (pe_call T.FS hr2 (by rfl) T.gS T.kS T.bS .nil pass0 (pa_cons (pv 0) (pa_cons (pv 3) pa_nil))) (pe_call T.FQ hr (by rfl) T.gQ T.kQ T.bQ .nil pass0 (pa_cons (pv 0) pa_nil))))
        (pss_one (ps_nputC (P := P) (w := w) rfl rfl hr (pv 2) (pe_tup (pa_cons (pv 5) (pa_cons (pe_call T.FP hr1 (by rfl) T.gP T.kP T.bP .nil pass0 (pa_cons (pv 0) (pa_cons pe_int pa_nil))) pa_nil))) (pe_call T.FC hr (by rfl) T.gC T.kC T.bC .nil pass0 (pa_cons (pv 0) pa_nil))))))
      (pss_one (ps_ret (pe_call T.FT hr (by rfl) T.gT T.kT T.bT .nil pass0 (pa_cons (pv 2) pa_nil))))), ?_⟩
    -- {}, [q, q, (0, 1)]
    intro d hd ds
    have kd : KeptB b g H (L2.upd H d (dN P w d [])) := KeptB.of (same_upd hd)
    have Bd : BagAt (L2.upd H d (dN P w d [])) b g n := B.new hd
    have Nd : NDict P w (L2.upd H d (dN P w d [])) d [] := NDict.nil ds
    have hdd : L2.upd H d (dN P w d []) d = some (dN P w d []) := upd_same
    generalize L2.upd H d (dN P w d []) = H1 at *
    refine ⟨_, rfl, b, g, n, rfl, Bd, by omega, fun p1 t1 u1 H2 qf1 k1 B2 pn1 pt1 => ?_⟩
    refine ⟨_, rfl, b, g, n + 3, rfl, B2, by omega, fun p2 t2 u2 H3 qf2 k2 B3 pn2 pt2 => ?_⟩
    refine ⟨(by show 2 ≤ sizeLine; decide), fun p3 pn3 => ?_⟩
    have k3 : KeptB b g H3 (L2.upd H3 p3 (.tup [.int 0, .int 1])) := KeptB.of (same_upd pn3)
    have B4 : BagAt (L2.upd H3 p3 (.tup [.int 0, .int 1])) b g (n + 6) := B3.new pn3
    have pt3 : L2.upd H3 p3 (.tup [.int 0, .int 1]) p3 = some (.tup [.int 0, .int 1]) := upd_same
    generalize L2.upd H3 p3 (.tup [.int 0, .int 1]) = H4 at *
    refine ⟨(by show 3 ≤ sizeLine; decide), fun l nl => ?_⟩
    obtain ⟨lo1, lo2⟩ := B4.off (H2 := H) nl
    have c0 : Cv P w b g d l (n + 6) H (L2.upd H4 l (.lst [.ref p1, .ref p2, .ref p3])) 0 := by
      have kH4 : KeptB b g H H4 := ((kd.trans k1).trans k2).trans k3
      have kl : KeptB b g H4 (L2.upd H4 l (.lst [.ref p1, .ref p2, .ref p3])) := KeptB.of (same_upd nl)
      have up : ∀ c xs, H4 c = some (.tup xs) → L2.upd H4 l (.lst [.ref p1, .ref p2, .ref p3]) c = some (.tup xs) := fun c xs h => kl.tup B4 h
      have free : ∀ {c : Addr} {H' H'' : Hp} {xs : List V} {nn : Nat}, KeptB b g H H' → H' c = none → KeptB b g H' H'' → BagAt H'' b g nn → H'' c = some (.tup xs) → H c = none := fun {c H' H'' xs nn} a1 a2 a3 a4 a5 => by
        obtain ⟨n1, n2⟩ := a4.off2 a5 (fun _ z => nomatch z)
        exact a1.free B a2 n1 n2
      have hd4 : H4 d = some (dN P w d []) := by
        obtain ⟨n1, n2⟩ := Bd.off2 hdd (fun xs z => by unfold dN at z; cases z)
        exact ((k1.trans k2).trans k3) _ _ hdd n1 n2
      have hd5 : L2.upd H4 l (.lst [.ref p1, .ref p2, .ref p3]) d = some (dN P w d []) := by
        rw [upd_ne (ne_of_none hd4 nl)]
        exact hd4
      refine ⟨B4.new nl, kH4.trans kl, ⟨p1, p2, p3, upd_same, ⟨?_, t1, u1, up _ _ (k3.tup B3 (k2.tup B2 pt1)), qf1⟩, ⟨?_, t2, u2, up _ _ (k3.tup B3 pt2), qf2⟩, ⟨?_, 0, 1, up _ _ pt3, ⟨by decide, by decide, by decide, by decide, by decide⟩⟩⟩, ⟨[], hd5, Nd.keep (.inl hd5) (fun c xs h => up _ _ (k3.tup B3 (k2.tup B2 (k1.tup Bd h)))), Nat.le_refl _, fun _ h => nomatch h⟩, hd, kH4.free B nl lo1 lo2, lo1, lo2⟩
      · exact free kd pn1 k1 B2 pt1
      · exact free (kd.trans k1) pn2 k2 B3 pt2
      · exact free ((kd.trans k1).trans k2) pn3 k3 B4 pt3
    generalize L2.upd H4 l (.lst [.ref p1, .ref p2, .ref p3]) = H5 at *
    refine ⟨_, _, rfl, ?_⟩
    refine ⟨_, rfl, _, rfl, size, 1, rfl, rfl, b, g, n + 6, size + 1, rfl, c0.bag, by omega, by omega, Int.lt_of_le_of_lt (show size + 1 ≤ 1000 by omega) (by decide +kernel), fun r H6 r0 r1 B6 K6 => ?_⟩
    have c1 := c0.keep K6 B6
    refine ⟨r, rfl, by omega, by omega, for_range (n := r.toNat) (fun i σ H7 => ∃ y z : Option V, σ = [some (.ref b), some (.int size), some (.ref d), some (.ref l), y, z] ∧ Cv P w b g d l (n + 7 + 10 * i) H H7 i) ⟨none, none, rfl, c1⟩ ?_ ?_⟩
    · rintro i σ H7 hi ⟨y, z, rfl, c⟩
      have hi30 : i < 31 := by omega
      refine ⟨_, rfl, b, g, n + 7 + 10 * i, 3, rfl, c.bag, by omega, by decide, by decide +kernel, fun r8 H8 _ _ B8 K8 => ?_⟩
      have c8 := c.keep K8 B8
      refine ⟨r8, 0, rfl, rfl, _, rfl, ?_⟩
      obtain ⟨q1, q2, q3, f1, f2, f3, f4⟩ := c8.few
      refine ite2 (fun _ => ?_) (fun _ => ?_)
      refine ⟨_, rfl, _, rfl, b, g, l, n + 7 + 10 * i + 1, _, rfl, B8, by omega, f1, c8.lo.1, c8.lo.2, by show 0 < 3; decide, by show 3 ≤ 1000; decide, fun j v H9 hv B9 K9 => ?_⟩
      obtain ⟨q9, rfl, a9⟩ : ∃ q, v = .ref q ∧ QA H H8 q := by
        have hm := List.mem_of_getElem? hv
        simp only [List.mem_cons, List.not_mem_nil, or_false] at hm
        rcases hm with rfl | rfl | rfl
        · exact ⟨_, rfl, f2⟩
        · exact ⟨_, rfl, f3⟩
        · exact ⟨_, rfl, f4⟩
      have c9 : Cv P w b g d l (n + 7 + 10 * i + 4) H H9 i := c8.keep K9 (B9.mono (by omega))
      have a9 := a9.keep K9 B8
      rotate_left
      refine ⟨_, rfl, b, g, n + 7 + 10 * i + 1, rfl, B8, by omega, fun q9 t9 u9 H9 qf9 K9 B9 pn9 pt9 => ?_⟩
      have c9 : Cv P w b g d l (n + 7 + 10 * i + 4) H H9 i := c8.keep K9 (B9.mono (by omega))
      have a9 : QA H H9 q9 := by
        obtain ⟨n1, n2⟩ := B9.off2 pt9 (fun _ z => nomatch z)
        exact ⟨c8.kb.free B pn9 n1 n2, t9, u9, pt9, qf9⟩
      all_goals
        refine ⟨_, rfl, b, g, n + 7 + 10 * i + 4, rfl, c9.bag, by omega, fun va t10 u10 H10 cf10 K10 B10 pn10 pt10 => ?_⟩
        have c10 := c9.keep K10 B10
        have v10 : CA H H10 va := by
          obtain ⟨n1, n2⟩ := B10.off2 pt10 (fun _ z => nomatch z)
          exact ⟨c9.kb.free B pn10 n1 n2, t10, u10, pt10, cf10⟩
        have a10 := a9.keep K10 c9.bag
        refine ⟨_, rfl, _, rfl, _, rfl, b, g, n + 7 + 10 * i + 9, 4, rfl, c10.bag, by omega, by decide, by decide +kernel, fun r11 H11 r110 r111 B11 K11 => ⟨(by show 2 ≤ sizeLine; decide), fun ka nka => ?_⟩⟩
        have c11 := c10.keep K11 B11
        have v11 := v10.keep K11 B10
        have a11 := a10.keep K11 B10
        have K12 : KeptB b g H11 (L2.upd H11 ka (.tup [.ref q9, .int r11])) := KeptB.of (same_upd nka)
        have c12 := c11.keep K12 (B11.new nka)
        have v12 := v11.keep K12 B11
        have a12 := a11.keep K12 B11
        have k12 : L2.upd H11 ka (.tup [.ref q9, .int r11]) ka = some (.tup [.ref q9, .int r11]) := upd_same
        generalize L2.upd H11 ka (.tup [.ref q9, .int r11]) = H12 at *
        obtain ⟨aq, t12, u12, h12, qf12⟩ := a12
        obtain ⟨es, d1, d2, d3, d4⟩ := c12.dict
        refine ⟨d, es, (t12, u12, r11), ka, q9, va, rfl, rfl, rfl, d1, d2, by omega, k12, h12, ?_⟩
        refine ⟨_, _, rfl, ?_⟩
        have c13 := c12.store (k := (t12, u12, r11)) d1 d2 d3 (by omega) d4 k12 h12 ⟨qf12, r110, by show r11 ≤ 3; omega⟩ aq v12
        have e13 : n + 7 + 10 * (i + 1) = n + 7 + 10 * i + 10 := by omega
        rw [e13]
        exact c13
    · rintro σ H7 ⟨y, z, rfl, c⟩
      obtain ⟨es, d1, d2, d3, d4⟩ := c.dict
      have vals : ∀ e : EN, ∃ p : Int × Int, e ∈ es → H7 e.2.2 = some (.tup [.int p.1, .int p.2]) ∧ CF p.1 p.2 ∧ H e.2.2 = none := fun e => by
        by_cases he : e ∈ es
        · obtain ⟨_, ⟨h0, t1, u1, h1, h2⟩, _⟩ := d4 e he
          exact ⟨(t1, u1), fun _ => ⟨h1, h2, h0⟩⟩
        · exact ⟨(0, 0), fun z => absurd z he⟩
      obtain ⟨val, hval⟩ := Classical.axiomOfChoice vals
      have hT7 : Tabs (LT t) H7 := Nm.Tabs.keptB hT c.kb B
      refine ⟨_, rfl, d, es, val, rfl, d1, d2, hT7, fun e he => ⟨(d4 e he).1, (hval e he).1⟩, fun D H8 rs x1 x2 x3 x4 x5 x6 x7 => ?_⟩
      have fe : es.filter (fun e => decide ((val e).1 ≠ 0)) = es := List.filter_eq_self.mpr fun e he => decide_eq_true (hval e he).2.1.1
      rw [fe] at x5
      have inE : ∀ r ∈ rs, r.2 ∈ es := fun r hr' => x5.mem_iff.mp (List.mem_map.mpr ⟨r, hr', rfl⟩)
      have B8 : BagAt H8 b g (n + 500) := (c.bag.mono (by omega)).ext x1
      have nw : ∀ {a : Addr}, New H7 a → New H a := fun {a} z => New.ofB c.bag c.kb z
      refine q D H8 (rs.map fun r => (val r.2, r.2.1.2.2, r.2.1.1, r.2.1.2.1)) ⟨fun tm htm => ?_, ?_⟩ ?_ ((KT.ofB c.kb).trans (KT.of x1)) x2 B8 ?_
      · obtain ⟨r, hr', rfl⟩ := List.mem_map.mp htm
        have := inE r hr'
        exact ⟨(hval _ this).2.1, (d4 _ this).1⟩
      · rw [List.pairwise_map]
        rw [List.pairwise_map] at x6
        exact x6
      · have z := x5.length_eq
        rw [List.length_map] at z
        rw [List.length_map]
        omega
      · refine .tup (nw x3) x4 ?_
        rw [List.map_map]
        have go : ∀ rs' : List (Addr × EN), (∀ r ∈ rs', r ∈ rs) → DSs (New H) H8 (rs'.map fun r => V.ref r.1) (rs'.map (tmD ∘ fun r => (val r.2, r.2.1.2.2, r.2.1.1, r.2.1.2.1))) := by
          intro rs' sub
          induction rs' with
          | nil => exact .nil
          | cons r rs' ih =>
            have hin := inE r (sub r List.mem_cons_self)
            obtain ⟨a1, qa, a2, a3, a4⟩ := x7 r (sub r List.mem_cons_self)
            obtain ⟨b1, b2, b3⟩ := d4 _ hin
            obtain ⟨w1, _, w3⟩ := hval _ hin
            have keep : ∀ c xs, H7 c = some (.tup xs) → H8 c = some (.tup xs) := fun c xs h => x1 _ _ h (fun _ z => nomatch z)
            refine .cons (.tup (nw a1) a2 (.cons (.tup (New.none w3) (keep _ _ w1) (.cons (.int _) (.cons (.int _) .nil))) (.cons (.int _) (.cons (.tup (New.none (b3 _ _ a3)) (keep _ _ a4) (.cons (.int _) (.cons (.int _) .nil))) .nil)))) (ih fun r hr' => sub r (List.mem_cons_of_mem _ hr'))
        exact go rs fun r h => h
end
end Nm

/-! for i, x in enumerate(t), t a tuple. -/
namespace Nm
open PySem PySem.Spec PyProof.Rows L2
theorem meets_enumT {v : Value} {o : Obj} {H : Heap → Prop} (B : Begins v o H) :
    Meets (Builtin.«enumerate.__new__» ⟨[.type "enumerate", v], []⟩) (fun _ R s => H s.heap ∧
      R (.ok (.ret (.ref (s.heap.push o).objs.size))) { s with heap := (s.heap.push o).push { cls := .type "enumerate", data := .fields #[.none, .bool false, .ref s.heap.objs.size, rawInt 0, .none, .none] } }) :=
  .of_wp fun prog w A R s h => by
    obtain ⟨hp, g, d, tk, os⟩ := s; obtain ⟨h1, h⟩ := h
    have hsub := sub_enumerate
    have q1 : ∀ {A' : Around} {E : Value → Shared → Prop} {Q : Value → Shared → Prop}, Q (.ref hp.objs.size) ⟨hp.push o, g, d, tk, os⟩ → wpAny (model prog w) A' (pyIter v) Q E ⟨hp, g, d, tk, os⟩ :=
      fun q => B.iter prog w _ _ ⟨hp, g, d, tk, os⟩ _ h1 q
    wp_walk using q1
    refine wpAny_stack_any fun st => wpAny_pure ?_
    split
    · rename_i c _ _ _ _ _
      cases (c == Value.type "enumerate")
      · wp_walk using q1
        exact ⟨_, rfl, h⟩
      · wp_walk using q1
        exact ⟨_, rfl, h⟩
    · wp_walk using q1
      exact ⟨_, rfl, h⟩
section
variable {prog : Program} {w : World} {A : Around} {E : Value → Shared → Prop} {s : Shared}
theorem call_enumB {v : Value} {o : Obj} {H : Heap → Prop} {Q : Value → Shared → Prop} (B : Begins v o H) (h1 : H s.heap)
    (h : ∀ h', IsEnum h' (s.heap.objs.size + 1) s.heap.objs.size 0 .none → h'.get? s.heap.objs.size = some o → h'.objs.size = s.heap.objs.size + 2 →
      (∀ b o, s.heap.get? b = some o → h'.get? b = some o) → Q (.ref (s.heap.objs.size + 1)) { s with heap := h' }) :
    wpAny (model prog w) A (call (.type "enumerate") [v]) Q E s := by
  refine callType_new F.called_enumerate (by decide) (F.typeCall_enumerate_1 _) (F.newCall_enumerate_1 _) (fun obj => F.args_object_init_2 obj _) F.entry_enumerate_new (meets_enumT B) ⟨h1, ?_⟩
  have hz : (s.heap.push o).objs.size = s.heap.objs.size + 1 := Heap.size_push ..
  show _ ∧ _
  rw [hz]
  have he : IsEnum ((s.heap.push o).push { cls := .type "enumerate", data := .fields #[.none, .bool false, .ref s.heap.objs.size, rawInt 0, .none, .none] }) (s.heap.objs.size + 1) s.heap.objs.size 0 .none := by
    have := Heap.get?_push_size (s.heap.push o) (o := { cls := .type "enumerate", data := .fields #[.none, .bool false, .ref s.heap.objs.size, rawInt 0, .none, .none] }) rfl
    rw [hz] at this; exact this
  refine ⟨⟨_, he, rfl⟩, h _ he (Heap.get?_push_of_some _ (Heap.get?_push_size _ B.free)) (by rw [Heap.size_push, hz]) fun b o x => Heap.get?_push_of_some _ (Heap.get?_push_of_some _ x)⟩
end
/-- the tuple at a, each item in a new pair -/
def IteT (K : PySem.W.Frag) (a : Addr) (xs : List V) : It :=
  ⟨fun i H => SqT K H a xs ∧ i < xs.length, fun i H v H' => ∃ T x, v = .ref T ∧ H T = none ∧ H' = L2.upd H T (.tup [.int (i : Nat), x]) ∧ xs[i]? = some x, fun i H => SqT K H a xs ∧ i = xs.length⟩
theorem turn_enumT {P : Program} {w : World} {K : PySem.W.Frag} {elts : List Expr} {kk : Nat} {tpos : Pos} (a e it : Addr) (xs : List V) :
    Turn P w K (.Tuple elts kk tpos) (IteT K a xs) [e, it] e (fun i h => (∃ old, IsEnum h e it ((i : Nat) : Int) old) ∧ h.IsTupleIter it a i ∧ e ≠ it) where
  mem := by simp
  obj := fun i h st b hb => by
    obtain ⟨⟨old, he⟩, ⟨o, ho, hc, hd⟩, _⟩ := st
    have e' : b = e ∨ b = it := by simpa using hb
    rcases e' with z | z
    · rw [z]; exact ⟨_, he, fun v q => nomatch q⟩
    · rw [z]; exact ⟨o, ho, fun v q => by rw [hd] at q; cases q⟩
  keep := fun i h h' st k => let ⟨⟨old, he⟩, hi, hne⟩ := st; ⟨⟨old, k e (by simp) _ he⟩, hi.at fun o q => k it (by simp) o q, hne⟩
  item := by
    intro X hP hw hK hc i pins s σ H E I hf st hg
    subst hP hw hK
    obtain ⟨⟨old, he⟩, hit, hne⟩ := st
    obtain ⟨hq, hlt⟩ := hg
    obtain ⟨its, rv, p, hz⟩ := I.tuple hq
    have hl2 := rv.length
    obtain ⟨x, hx⟩ : ∃ x, xs[i]? = some x := ⟨xs[i], List.getElem?_eq_getElem hlt⟩
    obtain ⟨u, hu, ru⟩ := rv.get hx
    have hel : e < s.heap.objs.size := Heap.lt_size he
    have hil : it < s.heap.objs.size := by obtain ⟨_, q, _⟩ := hit; exact Heap.lt_size q
    have nai : a ≠ it := fun z => by
      obtain ⟨o1, q1, c1, _⟩ := p
      obtain ⟨o2, q2, c2, _⟩ := hit
      rw [z, q2] at q1
      cases q1
      rw [c2] at c1
      injection c1 with c1
      exact absurd c1 (by decide)
    have nea : e ≠ a := fun z => by
      obtain ⟨o1, q1, c1, _⟩ := p
      rw [← z, he] at q1
      cases q1
      injection c1 with c1
      exact absurd c1 (by decide)
    have D := Draws.tuple (prog := X.prog) (w := X.w) (A := X.A.in1) (I.ok.hd hc) it a nai its.toArray
    refine wpAny_pyNext_enum_itemD D he ⟨hit, p⟩ (by rw [List.size_toArray, ← hl2]; exact hlt) hne (by simp [hne, nea]) fun u2 h' tk hP ho hst hT hsz hk => ?_
    have eu : u2 = u := by
      have : its[i]? = some u2 := by simpa using hP
      rw [hu] at this
      exact (Option.some.inj this).symm
    subst eu
    refine ⟨_, rfl, wpAny_letOwnedTupleGo_enum (s := { s with heap := h', toks := tk + 1 }) ho fun h'' he' sb => ?_⟩
    have hT2 : h''.get? s.heap.objs.size = some { cls := .type "tuple", data := .seq #[.int i tk, u2] } := (sb.2 _ (Nat.ne_of_gt hel)).trans hT
    have new : ObjOk X.prog X.w (L2.upd H s.heap.objs.size (.tup [.int (i : Nat), x])) h'' s.heap.objs.size (.tup [.int (i : Nat), x]) :=
      ⟨by show 2 ≤ sizeLine; decide, [.int i tk, u2], .cons ⟨_, rfl⟩ (.cons ru .nil), ⟨_, hT2, rfl, _, rfl⟩⟩
    have I1 : Inv X pins σ (L2.upd H s.heap.objs.size (.tup [.int (i : Nat), x])) { s with heap := h'', toks := tk + 1 } :=
      I.turnedNew (ch := [e, it]) (fun b ob hb q => (sb.2 b (fun z => hb (by simp [z]))).trans (hk b ob (fun z => hb (by simp [z])) (fun z => hb (by simp [z])) q)) hf (Nat.le_refl _) new
    refine ⟨.ref s.heap.objs.size, _, I1, rfl, ⟨_, x, rfl, I.hok.fresh (Nat.le_refl _), rfl, hx⟩, ⟨⟨u2, ?_⟩, hst.1.at fun o q => (sb.2 it (Ne.symm hne)).trans q, hne⟩, fun b hb => ?_⟩
    · have e1 : ((i + 1 : Nat) : Int) = (i : Int) + 1 := by omega
      rw [e1]; exact he'
    · have hb' : b < s.heap.objs.size := by
        have e' : b = e ∨ b = it := by simpa using hb
        rcases e' with z | z
        · rw [z]; exact hel
        · rw [z]; exact hil
      rw [upd_ne (Nat.ne_of_lt hb')]
      exact (hf b hb).1
  done := by
    intro X hP hw hK hc i pins s σ H E I hf st hg
    subst hP hw hK
    obtain ⟨⟨old, he⟩, hit, hne⟩ := st
    obtain ⟨hq, hx⟩ := hg
    obtain ⟨its, rv, p, hz⟩ := I.tuple hq
    obtain ⟨f0, f1, f2, f3, f4, f5⟩ := hf it (by simp)
    have hl2 := rv.length
    have nai : a ≠ it := fun z => by
      obtain ⟨o1, q1, c1, _⟩ := p
      obtain ⟨o2, q2, c2, _⟩ := hit
      rw [z, q2] at q1
      cases q1
      rw [c2] at c1
      injection c1 with c1
      exact absurd c1 (by decide)
    have e : i = its.toArray.size := by rw [List.size_toArray, ← hl2]; exact hx
    have D := Draws.tuple (prog := X.prog) (w := X.w) (A := X.A.in1) (I.ok.hd hc) it a nai its.toArray
    exact wpAny_pyNext_enum_endD D he ⟨e ▸ hit, p⟩ fun h' eb => ⟨rfl, I.turned (t' := s.toks) (fun b o hb q => eb b o hb q) f0 f1 f3 f4 f5⟩
  self := fun A i s Q E st h => let ⟨⟨_, he⟩, _⟩ := st; wpAny_pyIter_enum he h
def iEnumT (K : PySem.W.Frag) (ta : TA) : TI := fun σ H R => ta σ H fun vs H1 => ∃ a xs, vs = [.ref a] ∧ SqT K H1 a xs ∧ R (IteT K a xs) H1
theorem pi_enumT {X : Cx} {e : Expr} {ta : TA} {p pos tpos : Pos} {elts : List Expr} {kk : Nat} (hg : Gl X "enumerate") (hm : X.mg "enumerate" = none) (ha : PA X [e] ta) (hs : starEach [e] X.env = [(false, eval e X.env)] := by rfl) :
    PI X (.Tuple elts kk tpos) (.Call (.Name "enumerate" p) [e] [] pos) (iEnumT X.K ta) := by
  refine ⟨fun pins s σ H R I h => ?_⟩
  refine Call_ (ld_blt I hg hm boot_enumerate (PyProof.Rows.callWith_type1 (thn (ha.run pos pins s σ H _ I h) fun us s1 ⟨vs, H1, I1, r1, q1⟩ => ?_) hs rfl))
  obtain ⟨a, xs, ex, hq, q⟩ := q1
  subst ex
  cases r1 with
  | cons r rr =>
    cases rr
    cases r
    obtain ⟨its, rv, p', hz⟩ := I1.tuple hq
    refine call_enumB (begins_tuple a its.toArray) p' fun h' he hit hsz hk => wpAny_pyIter_enum he ?_
    have I2 : Inv X pins σ H1 { s1 with heap := h' } := I1.kept (t' := s1.toks) hk
    refine ⟨s1.heap.objs.size + 1, [s1.heap.objs.size + 1, s1.heap.objs.size], _, _, H1, rfl, I2, turn_enumT a (s1.heap.objs.size + 1) s1.heap.objs.size xs, ⟨⟨.none, he⟩, ⟨_, hit, rfl, rfl⟩, Nat.succ_ne_self _⟩, fun b hb => ?_, q⟩
    have e' : b = s1.heap.objs.size + 1 ∨ b = s1.heap.objs.size := by simpa using hb
    have hle : s1.heap.objs.size ≤ b := by
      rcases e' with z | z
      · rw [z]; exact Nat.le_add_right _ _
      · rw [z]; exact Nat.le_refl _
    exact I1.fpOk hle (I1.hok.fresh hle)
/-- the loop over it -/
theorem for_enumT {K : PySem.W.Frag} {a : Addr} {xs : List V} {g : TG} {tb : TS} {D : Ends} {σ : L2.St} {H : Hp} (Pv : Nat → L2.St → Hp → Prop) (h0 : Pv 0 σ H) (hl : ∀ i σ H, i ≤ xs.length → Pv i σ H → SqT K H a xs)
    (hs : ∀ i x T σ H, xs[i]? = some x → Pv i σ H → H T = none → g (.ref T) σ (L2.upd H T (.tup [.int (i : Nat), x])) fun σ2 H2 => tb { D with nx := Pv (i + 1), ct := Pv (i + 1), bk := D.nx } σ2 H2) (hd : ∀ σ H, Pv xs.length σ H → D.nx σ H) :
    ∃ W : Nat → Nat → L2.St → Hp → Prop, (∃ m, W 0 m σ H) ∧ ∀ i m σ H, W i m σ H →
      ((IteT K a xs).stop i H ∧ D.nx σ H) ∨ ((IteT K a xs).go i H ∧ ∃ N : L2.St → Hp → Prop, (∀ σ' H', N σ' H' → ∃ m', m' < m ∧ W (i + 1) m' σ' H') ∧ ∀ x H', (IteT K a xs).yld i H x H' → g x σ H' fun σ2 H2 => tb { D with nx := N, ct := N, bk := D.nx } σ2 H2) := by
  refine ⟨fun i m σ H => m = xs.length - i ∧ i ≤ xs.length ∧ Pv i σ H, ⟨xs.length, by simp, Nat.zero_le _, h0⟩, ?_⟩
  rintro i m σ H ⟨rfl, hi, p⟩
  have q := hl i σ H hi p
  by_cases hlt : i < xs.length
  · refine .inr ⟨⟨q, hlt⟩, Pv (i + 1), fun σ' H' p' => ⟨xs.length - (i + 1), by omega, rfl, hlt, p'⟩, fun x H' y => ?_⟩
    obtain ⟨T, v, rfl, hT, rfl, hx⟩ := y
    exact hs i v T σ H hx p hT
  · have e : i = xs.length := by omega
    subst e
    exact .inl ⟨⟨q, rfl⟩, hd σ H p⟩
end Nm

/-! Things of any kind, and the law's own judging of them: _law_is_int, _law_is_fraction, _law_is_term, _law_is_behind. -/
namespace Nm
open PySem PySem.Spec PyProof.Rows L2 LamX
abbrev sIsInt : Stmt := topS 25
abbrev sIsFr : Stmt := topS 32
abbrev sIsTm : Stmt := topS 33
abbrev sBehind : Stmt := topS 34
/-! ### data, an empty dict too -/
mutual
inductive DE (S : Addr → Prop) (H : Hp) : V → PyData → Prop
  | non : DE S H .non .none
  | bl (b : Bool) : DE S H (.bl b) (.bool b)
  | int (i : Int) : DE S H (.int i) (.int i)
  | str (x : Str) : DE S H (.str x) (.str x)
  | lst {a : Addr} {xs : List V} {ds : List PyData} : S a → H a = some (.lst xs) → DEs S H xs ds → DE S H (.ref a) (.list ds)
  | tup {a : Addr} {xs : List V} {ds : List PyData} : S a → H a = some (.tup xs) → DEs S H xs ds → DE S H (.ref a) (.tuple ds)
  | dic {a : Addr} : S a → H a = some (.dK []) → DE S H (.ref a) (.dict [])
inductive DEs (S : Addr → Prop) (H : Hp) : List V → List PyData → Prop
  | nil : DEs S H [] []
  | cons {v : V} {vs : List V} {d : PyData} {ds : List PyData} : DE S H v d → DEs S H vs ds → DEs S H (v :: vs) (d :: ds)
end
section
variable {S S' : Addr → Prop} {H H' : Hp} {K : PySem.W.Frag}
theorem ntL {xs : List V} : ∀ ps, HO.lst xs ≠ .tbl ps := fun _ z => by cases z
theorem ntT {xs : List V} : ∀ ps, HO.tup xs ≠ .tbl ps := fun _ z => by cases z
theorem ntD {kvs : List (Key × V)} : ∀ ps, HO.dK kvs ≠ .tbl ps := fun _ z => by cases z
mutual
theorem DE.keep (k : ∀ a o, S a → (∀ ps, o ≠ .tbl ps) → H a = some o → S' a ∧ H' a = some o) : ∀ {v : V} {d : PyData}, DE S H v d → DE S' H' v d
  | _, _, .non => .non
  | _, _, .bl b => .bl b
  | _, _, .int i => .int i
  | _, _, .str x => .str x
  | _, _, .lst s h r => .lst (k _ _ s ntL h).1 (k _ _ s ntL h).2 (DEs.keep k r)
  | _, _, .tup s h r => .tup (k _ _ s ntT h).1 (k _ _ s ntT h).2 (DEs.keep k r)
  | _, _, .dic s h => .dic (k _ _ s ntD h).1 (k _ _ s ntD h).2
theorem DEs.keep (k : ∀ a o, S a → (∀ ps, o ≠ .tbl ps) → H a = some o → S' a ∧ H' a = some o) : ∀ {vs : List V} {ds : List PyData}, DEs S H vs ds → DEs S' H' vs ds
  | _, _, .nil => .nil
  | _, _, .cons x r => .cons (DE.keep k x) (DEs.keep k r)
end
mutual
theorem DS.toE : ∀ {v : V} {d : PyData}, DS S H v d → DE S H v d
  | _, _, .non => .non
  | _, _, .bl b => .bl b
  | _, _, .int i => .int i
  | _, _, .str x => .str x
  | _, _, .lst s h r => .lst s h (DSs.toE r)
  | _, _, .tup s h r => .tup s h (DSs.toE r)
theorem DSs.toE : ∀ {vs : List V} {ds : List PyData}, DSs S H vs ds → DEs S H vs ds
  | _, _, .nil => .nil
  | _, _, .cons x r => .cons (DS.toE x) (DSs.toE r)
end
theorem DE.same {v : V} {d : PyData} (e : Same H H') (x : DE S H v d) : DE S H' v d := DE.keep (fun a o s _ h => ⟨s, e _ _ h⟩) x
theorem DEs.same {vs : List V} {ds : List PyData} (e : Same H H') (x : DEs S H vs ds) : DEs S H' vs ds := DEs.keep (fun a o s _ h => ⟨s, e _ _ h⟩) x
theorem DEs.len : ∀ {vs : List V} {ds : List PyData}, DEs S H vs ds → vs.length = ds.length
  | _, _, .nil => rfl
  | _, _, .cons _ r => by rw [List.length_cons, List.length_cons, DEs.len r]
theorem DEs.at : ∀ {vs : List V} {ds : List PyData} {i : Nat} {x : V}, DEs S H vs ds → vs[i]? = some x → ∃ d, ds[i]? = some d ∧ DE S H x d
  | _, _, _, _, .nil, h => by simp at h
  | _, _, 0, _, .cons r _, h => by
    obtain rfl := Option.some.inj h
    exact ⟨_, rfl, r⟩
  | _, _, i + 1, _, .cons _ r, h => by
    obtain ⟨d, h1, h2⟩ := DEs.at (i := i) r (by simpa using h)
    exact ⟨d, by simpa using h1, h2⟩
theorem de_ty {x : V} {d : PyData} (h : DE S H x d) : TyX K H x (.type (tyN d)) := by
  cases h with
  | non => exact .base .non
  | bl b => exact .base (.bl b)
  | int i => exact .base (.int i)
  | str x => exact .base (.str x)
  | lst _ h _ => exact .base (.lst h)
  | tup _ h _ => exact .base (.tup h)
  | dic _ h => exact .base (.dK h)
end
def isI : PyData → Bool | .int _ => true | .bool _ => true | _ => false
theorem kit_i {K : PySem.W.Frag} (d : PyData) : PySem.W.kitOne K (.type (tyN d)) (.type "int") = some (isI d) := by
  cases d
  · exact kit_ty (show kitB "NoneType" "int" = some false by decide +kernel)
  · exact kit_ty (show kitB "bool" "int" = some true by decide +kernel)
  · exact kit_ty (show kitB "int" "int" = some true by decide +kernel)
  · exact kit_ty (show kitB "str" "int" = some false by decide +kernel)
  · exact kit_ty (show kitB "list" "int" = some false by decide +kernel)
  · exact kit_ty (show kitB "tuple" "int" = some false by decide +kernel)
  · exact kit_ty (show kitB "dict" "int" = some false by decide +kernel)
/-! ### the judge -/
def inD (lo hi : Int) : PyData → Bool | .int i => decide (lo ≤ i ∧ i ≤ hi) | _ => false
def pairD : PyData → Option (Int × Int) | .tuple [.int a, .int b] => if 0 < b ∧ Int.gcd a b = 1 then some (a, b) else none | _ => none
mutual
def bdD : PyData → Bool
  | .int i => decide (-(10 ^ 60) ≤ i ∧ i ≤ 10 ^ 60)
  | .tuple xs => bdDs xs
  | .list xs => bdDs xs
  | _ => true
def bdDs : List PyData → Bool
  | [] => true
  | x :: xs => bdD x && bdDs xs
end
theorem bdDs_all : ∀ {xs : List PyData}, bdDs xs = true → ∀ d ∈ xs, bdD d = true
  | [], _, d, h => nomatch h
  | x :: xs, h1, d, h => by
    obtain ⟨a, b⟩ := Bool.and_eq_true_iff.mp (show (bdD x && bdDs xs) = true from h1)
    rcases List.mem_cons.mp h with rfl | h
    · exact a
    · exact bdDs_all b d h
theorem bdD_int {i : Int} (h : bdD (.int i) = true) : -(10 ^ 60) ≤ i ∧ i ≤ 10 ^ 60 := of_decide_eq_true h
structure JudT (mg : Str → Option Value) : Prop where
  isi : mg "isinstance" = none
  int : mg "int" = none
  bool : mg "bool" = none
  tup : mg "tuple" = none
  len : mg "len" = none
  all : mg "all" = none
  abs : mg "abs" = none
  enum : mg "enumerate" = none
section
variable {P : Program} {w : World} {K : PySem.W.Frag} {mg : Str → Option Value} {base : Heap}
def spIsInt : Sp := fun vs H Q _ => ∃ (x : V) (lo hi : Int) (d : PyData) (S : Addr → Prop), vs = [x, .int lo, .int hi] ∧ DE S H x d ∧ Q (.bl (inD lo hi d)) H
theorem scIsInt : FnScope ["_law_thing", "_law_least", "_law_most"] ["_law_thing", "_law_least", "_law_most"] (defScope sIsInt) := ⟨rfl, rfl, rfl, by decide +kernel, rfl, by decide +kernel, by decide +kernel⟩
theorem ok_isint {f : Addr} {fd : FuncData} {k : Nat} (F : Fun K "_law_is_int" "_law_is_int" sIsInt f fd) (T : JudT mg) : FnOk P w K mg base CX0 (k + 1) f fd ["_law_thing", "_law_least", "_law_most"] spIsInt := by
  refine F.ok scIsInt (fun vs H Q E h => ?_) (fun cdv A outer s H vs Q E hr h => ?_)
  · obtain ⟨x, lo, hi, d, S, rfl, _⟩ := h
    rfl
  · obtain ⟨x, lo, hi, d, S, rfl, hd, q⟩ := h
    refine ⟨_, pss_one (ps_ret (pe_and (pe_callB call_isi (by rfl) T.isi (by decide +kernel) (pa_cons (pv 0) (pa_cons (pe_bltn (v := .ty "int") (by rfl) T.int (by decide +kernel) rfl) pa_nil)))
      (pe_and (pe_not (pe_callB call_isi (by rfl) T.isi (by decide +kernel) (pa_cons (pv 0) (pa_cons (pe_bltn (v := .ty "bool") (by rfl) T.bool (by decide +kernel) rfl) pa_nil))))
        (pe_one (pe_chain op_le op_le (pv 1) (pv 0) (pv 2)))))), ?_⟩
    refine ⟨_, rfl, _, _, _, _, _, rfl, .ty "int", de_ty hd, kit_i d, _, rfl, ?_⟩
    have fin : ∀ b : Bool, inD lo hi d = b → Q (.bl b) H := fun b e => by rw [← e]; exact q
    cases hd with
    | int i =>
      refine iteT ?_
      refine ⟨_, rfl, _, _, _, _, _, rfl, .ty "bool", de_ty (.int i : DE S H _ _), kit_b (.int i), _, rfl, _, rfl, ?_⟩
      refine iteT ?_
      refine ⟨_, rfl, _, rfl, lo, i, rfl, rfl, _, rfl, ?_⟩
      refine ite2 (fun c => ?_) (fun c => ?_)
      · have c1 : lo ≤ i := of_decide_eq_true c
        refine ⟨_, rfl, i, hi, rfl, rfl, fin _ ?_⟩
        show decide (lo ≤ i ∧ i ≤ hi) = decide (i ≤ hi)
        simp [c1]
      · have c1 : ¬ lo ≤ i := fun z => c (decide_eq_true z)
        refine fin _ ?_
        show decide (lo ≤ i ∧ i ≤ hi) = false
        simp [c1]
    | bl b =>
      refine iteT ?_
      refine ⟨_, rfl, _, _, _, _, _, rfl, .ty "bool", de_ty (.bl b : DE S H _ _), kit_b (.bool b), _, rfl, _, rfl, ?_⟩
      exact iteF (fin _ rfl)
    | non => exact iteF (fin _ rfl)
    | str x => exact iteF (fin _ rfl)
    | lst _ _ _ => exact iteF (fin _ rfl)
    | tup _ _ _ => exact iteF (fin _ rfl)
    | dic _ _ => exact iteF (fin _ rfl)
/-! ### _law_is_fraction -/
def spIsFr : Sp := fun vs H Q _ => ∃ (x : V) (d : PyData) (S : Addr → Prop), vs = [x] ∧ DE S H x d ∧ bdD d = true ∧ ∀ H', Same H H' → Q (.bl (pairD d).isSome) H'
structure FrT (P : Program) (w : World) (K : PySem.W.Frag) (mg : Str → Option Value) (base : Heap) where
  fI : Addr
  fdI : FuncData
  fC : Addr
  fdC : FuncData
  FI : FnOk P w K mg base CX0 1 fI fdI ["_law_thing", "_law_least", "_law_most"] spIsInt
  FC : FnOk P w K mg base CX0 1 fC fdC ["_law_one", "_law_other"] spCommon
  bI : Binds K fdI ["_law_thing", "_law_least", "_law_most"] []
  bC : Binds K fdC ["_law_one", "_law_other"] []
  gI : mg "_law_is_int" = some (.ref fI)
  gC : mg "_law_common" = some (.ref fC)
  kI : PySem.W.keepIn K (.ref fI) = true
  kC : PySem.W.keepIn K (.ref fC) = true
theorem scIsFr : FnScope ["_law_thing", "_law_one"] ["_law_thing"] (defScope sIsFr) := ⟨rfl, rfl, rfl, by decide +kernel, rfl, by decide +kernel, by decide +kernel⟩
theorem pairD_no {d : PyData} (h : ∀ a b, d ≠ .tuple [.int a, .int b]) : pairD d = none := by
  unfold pairD
  split
  · rename_i a b
    exact absurd rfl (h a b)
  · rfl
def intB : PyData → Bool | .int _ => true | _ => false
theorem inB {d : PyData} (h : bdD d = true) : inD (-(10 ^ (60 : Int).toNat)) (10 ^ (60 : Int).toNat) d = intB d := by
  cases d with
  | int i =>
    have z := bdD_int h
    show decide (-(10 ^ (60 : Int).toNat) ≤ i ∧ i ≤ 10 ^ (60 : Int).toNat) = true
    exact decide_eq_true z
  | _ => rfl
theorem intB_int {d : PyData} (h : intB d = true) : ∃ i, d = .int i := by
  cases d with
  | int i => exact ⟨i, rfl⟩
  | _ => cases h
theorem bdT {ds : List PyData} (h : bdD (.tuple ds) = true) : ∀ d ∈ ds, bdD d = true := bdDs_all h
theorem ok_isfr {f : Addr} {fd : FuncData} (F : Fun K "_law_is_fraction" "_law_is_fraction" sIsFr f fd) (T : JudT mg) (U : FrT P w K mg base) : FnOk P w K mg base CX0 2 f fd ["_law_thing"] spIsFr := by
  refine F.ok scIsFr (fun vs H Q E h => ?_) (fun cdv A outer s H vs Q E hr h => ?_)
  · obtain ⟨x, d, S, rfl, _⟩ := h
    rfl
  · obtain ⟨x, d, S, rfl, hd, bd, q⟩ := h
    refine ⟨_, pss_cons (ps_if (PW.pt (pw_or (pt_not (pt_val (pe_callB call_isi (by rfl) T.isi (by decide +kernel) (pa_cons (pv 0) (pa_cons (pe_bltn (v := .ty "tuple") (by rfl) T.tup (by decide +kernel) rfl) pa_nil)))))
          (pw_or1 (pt_cmpR op_ne (pe_callB call_len_seq (by rfl) T.len PySem.boot_len (pa_cons (pv 0) pa_nil)) pe_int (nomark _))))) (pss_one (ps_ret pe_bl)) pss_nil)
      (pss_cons (ps_if (pt_not (pt_val (pe_callB (cr_all rfl) (by rfl) T.all (by decide +kernel) (pa_cons
          (pe_lc (own := [("_law_one", 1)]) (g := gName 1) (tt := tYes) rfl scIsFr.nd (pi_tup (pv 0)) (blkOk_by (N := ["_law_thing", "_law_one"]) (sc := defScope sIsFr) (by decide +kernel)) (fun _ _ _ _ _ => pg_name (i := 1) scIsFr.nd rfl (Or.inl rfl)) (fun _ _ _ _ _ => pts_nil)
            (fun _ _ _ _ _ => pe_call U.FI (by exact hr) (by rfl) U.gI U.kI U.bI .nil pass0 (pa_cons (pv 1) (pa_cons (pe_un un_neg (pe_op op_pow pe_int pe_int)) (pa_cons (pe_op op_pow pe_int pe_int) pa_nil))))) pa_nil)))) (pss_one (ps_ret pe_bl)) pss_nil)
      (pss_one (ps_ret (pe_and (pe_cmpR op_gt (pe_ix ix_tup (pv 0) pe_int (fun _ _ => rfl)) pe_int (nomark _)) (pe_one (pe_cmpR op_eq (pe_call U.FC hr (by rfl) U.gC U.kC U.bC .nil pass0 (pa_cons (pe_ix ix_tup (pv 0) pe_int (fun _ _ => rfl)) (pa_cons (pe_ix ix_tup (pv 0) pe_int (fun _ _ => rfl)) pa_nil))) pe_int (nomark _))))))), ?_⟩
    refine ⟨_, rfl, _, _, _, _, _, rfl, .ty "tuple", de_ty hd, kit_t d, _, rfl, ?_⟩
    have fin : ∀ (b : Bool) (H' : Hp), (pairD d).isSome = b → Same H H' → Q (.bl b) H' := fun b H' e sm => by rw [← e]; exact q H' sm
    cases hd with
    | non => exact iteT (fin _ _ rfl fun _ _ h => h)
    | bl b => exact iteT (fin _ _ rfl fun _ _ h => h)
    | int i => exact iteT (fin _ _ rfl fun _ _ h => h)
    | str x => exact iteT (fin _ _ rfl fun _ _ h => h)
    | lst _ _ _ => exact iteT (fin _ _ rfl fun _ _ h => h)
    | dic _ _ => exact iteT (fin _ _ rfl fun _ _ h => h)
    | @tup a xs ds hS ha hx =>
      refine iteF ?_
      refine ⟨_, rfl, a, xs, rfl, .inr (SqT.of ha), rfl, _, rfl, ?_⟩
      have hl := hx.len
      refine ite2 (fun c => fin _ _ ?_ fun _ _ h => h) (fun c => ?_)
      · refine congrArg Option.isSome (pairD_no fun a b z => ?_)
        have z : ds = [.int a, .int b] := by injection z
        rw [z] at hl
        have hl : xs.length = 2 := hl
        rw [hl] at c
        exact absurd c (by decide)
      · have h2 : xs.length = 2 := by
          by_cases z : xs.length = 2
          · exact z
          · exact absurd (by simp; omega) c
        refine ⟨_, rfl, a, rfl, ⟨_, SqT.of ha⟩, fun D hD => ?_⟩
        refine lc_tup (K := K) (a := a) (xs := xs) (fun i H2 => Same H H2 ∧ H2 D = some (.lst (((ds.take i).map intB).map V.bl))) ⟨same_upd hD, upd_same⟩ (fun i H2 _ h => SqT.of (h.1 _ _ ha)) (fun i x H2 hi h => ?_) (fun H2 h => ?_)
        · obtain ⟨sm, h2'⟩ := h
          obtain ⟨d', hd', dd'⟩ := hx.at hi
          refine ⟨rfl, ?_⟩
          unfold tYes
          dsimp only
          rw [if_pos rfl]
          refine ⟨_, rfl, 10, 60, rfl, rfl, ⟨by decide, by decide, by decide⟩, _, rfl, 10, 60, rfl, rfl, ⟨by decide, by decide, by decide⟩, ?_⟩
          refine ⟨x, _, _, d', S, rfl, DE.same sm dd', _, h2', ?_, fun p o hp => ?_, ?_⟩
          · rw [List.length_map, List.length_map, List.length_take]
            exact Nat.lt_of_le_of_lt (show min i ds.length ≤ 1000 by omega) (by decide)
          · rw [upd_ne (ne_of_none hp hD)]
            exact sm _ _ hp
          · rw [upd_same, List.take_add_one, hd', inB (bdT bd d' (List.mem_of_getElem? hd')), List.map_append, List.map_append]
            rfl
        · obtain ⟨sm, h2'⟩ := h
          have l2 : ds.length = 2 := by omega
          obtain ⟨d1, d2, rfl⟩ : ∃ d1 d2, ds = [d1, d2] := by
            match ds, l2 with
            | [d1, d2], _ => exact ⟨d1, d2, rfl⟩
          obtain ⟨x1, x2, rfl⟩ : ∃ x1 x2, xs = [x1, x2] := by
            match xs, h2 with
            | [x1, x2], _ => exact ⟨x1, x2, rfl⟩
          refine ⟨D, [intB d1, intB d2], rfl, SqL.of h2', _, rfl, ?_⟩
          have ea : ([intB d1, intB d2].all id) = (intB d1 && intB d2) := by simp
          rw [ea]
          refine ite2 (fun c2 => fin _ _ ?_ sm) (fun c2 => ?_)
          · refine congrArg Option.isSome (pairD_no fun a b z => ?_)
            have z : [d1, d2] = [.int a, .int b] := by injection z
            injection z with z1 z2
            injection z2 with z2
            rw [z1, z2] at c2
            exact absurd c2 (show ¬ (!(true && true)) = true by decide)
          · have c3 : (intB d1 && intB d2) = true := by simpa using c2
            obtain ⟨c4, c5⟩ := Bool.and_eq_true_iff.mp c3
            obtain ⟨i1, rfl⟩ := intB_int c4
            obtain ⟨i2, rfl⟩ := intB_int c5
            cases hx with
            | cons r1 r2 =>
            cases r2 with
            | cons r2 _ =>
            cases r1
            cases r2
            have ha2 := sm _ _ ha
            refine ⟨_, rfl, a, _, 1, .int i2, rfl, rfl, SqT.of ha2, rfl, i2, 0, rfl, rfl, _, rfl, ?_⟩
            refine ite2 (fun c6 => ?_) (fun c6 => ?_)
            · have c6 : 0 < i2 := of_decide_eq_true c6
              refine ⟨_, rfl, a, _, 0, .int i1, rfl, rfl, SqT.of ha2, rfl, _, rfl, a, _, 1, .int i2, rfl, rfl, SqT.of ha2, rfl, i1, i2, rfl, rfl, fin _ _ ?_ sm⟩
              show Option.isSome (if 0 < i2 ∧ Int.gcd i1 i2 = 1 then some (i1, i2) else none) = decide (V.int (Int.gcd i1 i2 : Int) = V.int 1)
              by_cases g : Int.gcd i1 i2 = 1
              · simp [c6, g]
              · have : ¬ ((Int.gcd i1 i2 : Int) = 1) := by omega
                simp [g, this]
            · have c6 : ¬ 0 < i2 := fun z => c6 (decide_eq_true z)
              refine fin _ _ ?_ sm
              show Option.isSome (if 0 < i2 ∧ Int.gcd i1 i2 = 1 then some (i1, i2) else none) = false
              simp [c6]
/-! ### _law_is_term -/
theorem pairD_some {d : PyData} {p : Int × Int} (h : pairD d = some p) : d = .tuple [.int p.1, .int p.2] ∧ 0 < p.2 ∧ Int.gcd p.1 p.2 = 1 := by
  unfold pairD at h
  split at h
  · rename_i a b
    split at h
    · rename_i c
      obtain rfl := Option.some.inj h
      exact ⟨rfl, c.1, c.2⟩
    · cases h
  · cases h
def tm3 (k : Int) : Option (Int × Int) → Option (Int × Int) → Option Tm
  | some c', some q' => if c'.1 ≠ 0 ∧ (0 ≤ k ∧ k ≤ 3) ∧ q'.2 ≤ 4 ∧ (if q'.1 < 0 then -q'.1 else q'.1) ≤ 4 * q'.2 then some (c', k, q') else none
  | _, _ => none
def tmOf : PyData → Option Tm
  | .tuple [c, .int k, q] => tm3 k (pairD c) (pairD q)
  | _ => none
theorem tmOf_no {d : PyData} (h : ∀ c k q, d ≠ .tuple [c, .int k, q]) : tmOf d = none := by
  unfold tmOf
  split
  · rename_i c k q
    exact absurd rfl (h c k q)
  · rfl
theorem tmOf_no1 {c k q : PyData} (h : pairD c = none) : tmOf (.tuple [c, k, q]) = none := by
  cases k with
  | int k =>
    show tm3 k (pairD c) (pairD q) = none
    rw [h]
    rfl
  | _ => rfl
theorem tmOf_no3 {c k q : PyData} (h : pairD q = none) : tmOf (.tuple [c, k, q]) = none := by
  cases k with
  | int k =>
    show tm3 k (pairD c) (pairD q) = none
    rw [h]
    cases pairD c <;> rfl
  | _ => rfl
theorem tmOf_at {c q : PyData} {k : Int} {c' q' : Int × Int} (h1 : pairD c = some c') (h2 : pairD q = some q') : tmOf (.tuple [c, .int k, q]) = if c'.1 ≠ 0 ∧ (0 ≤ k ∧ k ≤ 3) ∧ q'.2 ≤ 4 ∧ (if q'.1 < 0 then -q'.1 else q'.1) ≤ 4 * q'.2 then some (c', k, q') else none := by
  show tm3 k (pairD c) (pairD q) = _
  rw [h1, h2]
  rfl
def spIsTm : Sp := fun vs H Q _ => ∃ (x : V) (d : PyData) (S : Addr → Prop), vs = [x] ∧ DE S H x d ∧ bdD d = true ∧ ∀ H', Same H H' → Q (.bl (tmOf d).isSome) H'
structure TmT (P : Program) (w : World) (K : PySem.W.Frag) (mg : Str → Option Value) (base : Heap) extends FrT P w K mg base where
  fF : Addr
  fdF : FuncData
  FF : FnOk P w K mg base CX0 2 fF fdF ["_law_thing"] spIsFr
  bF : Binds K fdF ["_law_thing"] []
  gF : mg "_law_is_fraction" = some (.ref fF)
  kF : PySem.W.keepIn K (.ref fF) = true
theorem scIsTm : FnScope ["_law_thing"] ["_law_thing"] (defScope sIsTm) := ⟨rfl, rfl, rfl, by decide +kernel, rfl, by decide +kernel, by decide +kernel⟩
theorem de_pair {S : Addr → Prop} {H : Hp} {x : V} {d : PyData} {p : Int × Int} (h : DE S H x d) (e : pairD d = some p) : ∃ a, x = .ref a ∧ H a = some (.tup [.int p.1, .int p.2]) := by
  obtain ⟨rfl, _⟩ := pairD_some e
  cases h with
  | @tup a xs _ hS ha hx =>
  cases hx with
  | cons r1 r2 =>
  cases r2 with
  | cons r2 r3 =>
  cases r1
  cases r2
  cases r3
  exact ⟨a, rfl, ha⟩
theorem ok_istm {f : Addr} {fd : FuncData} (F : Fun K "_law_is_term" "_law_is_term" sIsTm f fd) (T : JudT mg) (U : TmT P w K mg base) : FnOk P w K mg base CX0 3 f fd ["_law_thing"] spIsTm := by
  refine F.ok scIsTm (fun vs H Q E h => ?_) (fun cdv A outer s H vs Q E hr h => ?_)
  · obtain ⟨x, d, S, rfl, _⟩ := h
    rfl
  · obtain ⟨x, d, S, rfl, hd, bd, q⟩ := h
    have hr1 : Room 1 _ := hr.mono (by decide)
    refine ⟨_, pss_cons (ps_if (PW.pt (pw_or (pt_not (pt_val (pe_callB call_isi (by rfl) T.isi (by decide +kernel) (pa_cons (pv 0) (pa_cons (pe_bltn (v := .ty "tuple") (by rfl) T.tup (by decide +kernel) rfl) pa_nil)))))
          (pw_or (pt_cmpR op_ne (pe_callB call_len_seq (by rfl) T.len PySem.boot_len (pa_cons (pv 0) pa_nil)) pe_int (nomark _))
          (pw_or (pt_not (pt_val (pe_call U.FF hr (by rfl) U.gF U.kF U.bF .nil pass0 (pa_cons (pe_ix ix_tup (pv 0) pe_int (fun _ _ => rfl)) pa_nil))))
          (pw_or1 (pt_cmpR op_eq (pe_ix ix_tup (pe_ix ix_tup (pv 0) pe_int (fun _ _ => rfl)) pe_int (fun _ _ => rfl)) pe_int (nomark _))))))) (pss_one (ps_ret pe_bl)) pss_nil)
      (pss_cons (ps_if (PW.pt (pw_or (pt_not (pt_val (pe_call U.FI hr1 (by rfl) U.gI U.kI U.bI .nil pass0 (pa_cons (pe_ix ix_tup (pv 0) pe_int (fun _ _ => rfl)) (pa_cons pe_int (pa_cons pe_int pa_nil))))))
          (pw_or1 (pt_not (pt_val (pe_call U.FF hr (by rfl) U.gF U.kF U.bF .nil pass0 (pa_cons (pe_ix ix_tup (pv 0) pe_int (fun _ _ => rfl)) pa_nil))))))) (pss_one (ps_ret pe_bl)) pss_nil)
      (pss_one (ps_ret (pe_and (pe_cmpR op_le (pe_ix ix_tup (pe_ix ix_tup (pv 0) pe_int (fun _ _ => rfl)) pe_int (fun _ _ => rfl)) pe_int (nomark _))
        (pe_one (pe_cmpR op_le (pe_callB call_abs (by rfl) T.abs (by decide +kernel) (pa_cons (pe_ix ix_tup (pe_ix ix_tup (pv 0) pe_int (fun _ _ => rfl)) pe_int (fun _ _ => rfl)) pa_nil)) (pe_op op_mul pe_int (pe_ix ix_tup (pe_ix ix_tup (pv 0) pe_int (fun _ _ => rfl)) pe_int (fun _ _ => rfl))) (nomark _))))))), ?_⟩
    refine ⟨_, rfl, _, _, _, _, _, rfl, .ty "tuple", de_ty hd, kit_t d, _, rfl, ?_⟩
    have fin : ∀ (b : Bool) (H' : Hp), (tmOf d).isSome = b → Same H H' → Q (.bl b) H' := fun b H' e sm => by rw [← e]; exact q H' sm
    cases hd with
    | non => exact iteT (fin _ _ rfl fun _ _ h => h)
    | bl b => exact iteT (fin _ _ rfl fun _ _ h => h)
    | int i => exact iteT (fin _ _ rfl fun _ _ h => h)
    | str x => exact iteT (fin _ _ rfl fun _ _ h => h)
    | lst _ _ _ => exact iteT (fin _ _ rfl fun _ _ h => h)
    | dic _ _ => exact iteT (fin _ _ rfl fun _ _ h => h)
    | @tup a xs ds hS ha hx =>
      refine iteF ?_
      refine ⟨_, rfl, a, xs, rfl, .inr (SqT.of ha), rfl, _, rfl, ?_⟩
      have hl := hx.len
      refine ite2 (fun c => fin _ _ ?_ fun _ _ h => h) (fun c => ?_)
      · refine congrArg Option.isSome (tmOf_no fun a k b z => ?_)
        have z : ds = [a, .int k, b] := by injection z
        rw [z] at hl
        have hl : xs.length = 3 := hl
        rw [hl] at c
        exact absurd c (by decide)
      · have h2 : xs.length = 3 := by
          by_cases z : xs.length = 3
          · exact z
          · exact absurd (by simp; omega) c
        have l2 : ds.length = 3 := by omega
        obtain ⟨d1, d2, d3, rfl⟩ : ∃ d1 d2 d3, ds = [d1, d2, d3] := by
          match ds, l2 with
          | [d1, d2, d3], _ => exact ⟨d1, d2, d3, rfl⟩
        obtain ⟨x1, x2, x3, rfl⟩ : ∃ x1 x2 x3, xs = [x1, x2, x3] := by
          match xs, h2 with
          | [x1, x2, x3], _ => exact ⟨x1, x2, x3, rfl⟩
        obtain ⟨r1, r2, r3⟩ : DE S H x1 d1 ∧ DE S H x2 d2 ∧ DE S H x3 d3 := by
          cases hx with
          | cons r1 r =>
          cases r with
          | cons r2 r =>
          cases r with
          | cons r3 r => exact ⟨r1, r2, r3⟩
        have b1 : bdD d1 = true := bdT bd d1 (by simp)
        have b3 : bdD d3 = true := bdT bd d3 (by simp)
        refine ⟨_, rfl, a, _, 0, x1, rfl, rfl, SqT.of ha, rfl, x1, d1, S, rfl, r1, b1, fun H1 s1 => ⟨_, rfl, ?_⟩⟩
        cases e1 : pairD d1 with
        | none => exact iteT (fin _ _ (congrArg Option.isSome (tmOf_no1 e1)) s1)
        | some c' =>
          refine iteF ?_
          obtain ⟨a1, rfl, k1⟩ := de_pair r1 e1
          refine ⟨_, rfl, a, _, 0, .ref a1, rfl, rfl, SqT.of (s1 _ _ ha), rfl, a1, _, 0, .int c'.1, rfl, rfl, SqT.of (s1 _ _ k1), rfl, rfl, _, rfl, ?_⟩
          refine ite2 (fun c1 => fin _ _ ?_ s1) (fun c1 => ?_)
          · have z : c'.1 = 0 := by simpa using c1
            cases d2 with
            | int k =>
              cases e3 : pairD d3 with
              | none => rw [tmOf_no3 e3]; rfl
              | some q' => rw [tmOf_at e1 e3, if_neg (fun y => y.1 z)]; rfl
            | _ => rfl
          · have z : c'.1 ≠ 0 := by simpa using c1
            refine ⟨_, rfl, a, _, 1, x2, rfl, rfl, SqT.of (s1 _ _ ha), rfl, x2, 0, 3, d2, S, rfl, DE.same s1 r2, _, rfl, ?_⟩
            refine ite2 (fun c2 => fin _ _ ?_ s1) (fun c2 => ?_)
            · have c2 : inD 0 3 d2 = false := by simpa using c2
              cases d2 with
              | int k =>
                have c2 : ¬ (0 ≤ k ∧ k ≤ 3) := of_decide_eq_false c2
                cases e3 : pairD d3 with
                | none => rw [tmOf_no3 e3]; rfl
                | some q' => rw [tmOf_at e1 e3, if_neg (fun y => c2 y.2.1)]; rfl
              | _ => rfl
            · have c2 : inD 0 3 d2 = true := by simpa using c2
              obtain ⟨k, rfl⟩ : ∃ k, d2 = .int k := by
                cases d2 with
                | int k => exact ⟨k, rfl⟩
                | _ => cases c2
              have c2 : 0 ≤ k ∧ k ≤ 3 := of_decide_eq_true c2
              refine ⟨_, rfl, a, _, 2, x3, rfl, rfl, SqT.of (s1 _ _ ha), rfl, x3, d3, S, rfl, DE.same s1 r3, b3, fun H2 s2 => ⟨_, rfl, ?_⟩⟩
              have s12 := s1.trans s2
              cases e3 : pairD d3 with
              | none => exact iteT (fin _ _ (congrArg Option.isSome (tmOf_no3 e3)) s12)
              | some q' =>
                refine iteF ?_
                obtain ⟨a3, rfl, k3⟩ := de_pair r3 e3
                obtain ⟨_, q0, _⟩ := pairD_some e3
                have ha2 := s12 _ _ ha
                have k32 := s12 _ _ k3
                refine ⟨_, rfl, a, _, 2, .ref a3, rfl, rfl, SqT.of ha2, rfl, a3, _, 1, .int q'.2, rfl, rfl, SqT.of k32, rfl, q'.2, 4, rfl, rfl, _, rfl, ?_⟩
                refine ite2 (fun c4 => ?_) (fun c4 => ?_)
                · have c4 : q'.2 ≤ 4 := of_decide_eq_true c4
                  refine ⟨_, rfl, a, _, 2, .ref a3, rfl, rfl, SqT.of ha2, rfl, a3, _, 0, .int q'.1, rfl, rfl, SqT.of k32, rfl, q'.1, rfl, _, rfl, a, _, 2, .ref a3, rfl, rfl, SqT.of ha2, rfl, a3, _, 1, .int q'.2, rfl, rfl, SqT.of k32, rfl, 4, q'.2, rfl, rfl, .inl (by decide), _, _, rfl, rfl, fin _ _ ?_ s12⟩
                  rw [tmOf_at e1 e3]
                  by_cases g : (if q'.1 < 0 then -q'.1 else q'.1) ≤ 4 * q'.2
                  · rw [if_pos ⟨z, c2, c4, g⟩, decide_eq_true g]; rfl
                  · rw [if_neg (fun y => g y.2.2.2), decide_eq_false g]; rfl
                · have c4 : ¬ q'.2 ≤ 4 := fun y => c4 (decide_eq_true y)
                  refine fin _ _ ?_ s12
                  rw [tmOf_at e1 e3, if_neg (fun y => c4 y.2.2.1)]
                  rfl
end
end Nm

/-! _law_less, _law_is_behind, _law_due. -/
namespace Nm
open PySem PySem.Spec PyProof.Rows L2 LamX
abbrev sDue : Stmt := topS 38
theorem tmOf_some {d : PyData} {p : Tm} (h : tmOf d = some p) : ∃ c q, d = .tuple [c, .int p.2.1, q] ∧ pairD c = some p.1 ∧ pairD q = some p.2.2 ∧ p.1.1 ≠ 0 ∧ (0 ≤ p.2.1 ∧ p.2.1 ≤ 3) ∧ p.2.2.2 ≤ 4 ∧ (if p.2.2.1 < 0 then -p.2.2.1 else p.2.2.1) ≤ 4 * p.2.2.2 := by
  unfold tmOf at h
  split at h
  · rename_i c k q
    cases e1 : pairD c with
    | none => rw [e1] at h; cases h
    | some c' =>
      cases e2 : pairD q with
      | none => rw [e1, e2] at h; cases h
      | some q' =>
        rw [e1, e2] at h
        unfold tm3 at h
        dsimp only at h
        by_cases y : c'.1 ≠ 0 ∧ (0 ≤ k ∧ k ≤ 3) ∧ q'.2 ≤ 4 ∧ (if q'.1 < 0 then -q'.1 else q'.1) ≤ 4 * q'.2
        · rw [if_pos y] at h
          obtain rfl := Option.some.inj h
          exact ⟨c, q, rfl, e1, e2, y⟩
        · rw [if_neg y] at h
          cases h
  · cases h
section
variable {P : Program} {w : World} {K : PySem.W.Frag} {mg : Str → Option Value} {base : Heap}
theorem de_term {S : Addr → Prop} {H : Hp} {x : V} {d : PyData} {p : Tm} (h : DE S H x d) (e : tmOf d = some p) : ∃ a a1 a3, x = .ref a ∧ H a = some (.tup [.ref a1, .int p.2.1, .ref a3]) ∧ H a1 = some (.tup [.int p.1.1, .int p.1.2]) ∧ H a3 = some (.tup [.int p.2.2.1, .int p.2.2.2]) := by
  obtain ⟨c, q, rfl, e1, e2, _⟩ := tmOf_some e
  cases h with
  | @tup a xs _ hS ha hx =>
  cases hx with
  | cons r1 r =>
  cases r with
  | cons r2 r =>
  cases r with
  | cons r3 r =>
  cases r2
  cases r
  obtain ⟨a1, rfl, k1⟩ := de_pair r1 e1
  obtain ⟨a3, rfl, k3⟩ := de_pair r3 e2
  exact ⟨a, a1, a3, rfl, ha, k1, k3⟩
/-! ### _law_less -/
def spLess : Sp := fun vs H Q _ => ∃ (a b : Addr) (t u t' u' : Int), vs = [.ref a, .ref b] ∧ H a = some (.tup [.int t, .int u]) ∧ H b = some (.tup [.int t', .int u']) ∧ CMul t u' ∧ CMul t' u ∧ Q (.bl (decide (t * u' < t' * u))) H
theorem scLess : FnScope ["_law_one", "_law_other"] ["_law_one", "_law_other"] (defScope sLess) := ⟨rfl, rfl, rfl, by decide +kernel, rfl, by decide +kernel, by decide +kernel⟩
theorem ok_less {f : Addr} {fd : FuncData} {k : Nat} (F : Fun K "_law_less" "_law_less" sLess f fd) : FnOk P w K mg base CX0 (k + 1) f fd ["_law_one", "_law_other"] spLess := by
  refine F.ok scLess (fun vs H Q E h => ?_) (fun cdv A outer s H vs Q E hr h => ?_)
  · obtain ⟨a, b, t, u, t', u', rfl, _⟩ := h
    rfl
  · obtain ⟨a, b, t, u, t', u', rfl, ha, hb, c1, c2, q⟩ := h
    refine ⟨_, pss_one (ps_ret (pe_cmpR op_lt (pe_op op_mul (pe_ix ix_tup (pv 0) pe_int (fun _ _ => rfl)) (pe_ix ix_tup (pv 1) pe_int (fun _ _ => rfl))) (pe_op op_mul (pe_ix ix_tup (pv 1) pe_int (fun _ _ => rfl)) (pe_ix ix_tup (pv 0) pe_int (fun _ _ => rfl))) (nomark _))), ?_⟩
    refine ⟨_, rfl, a, _, 0, .int t, rfl, rfl, SqT.of ha, rfl, _, rfl, b, _, 1, .int u', rfl, rfl, SqT.of hb, rfl, t, u', rfl, rfl, c1, _, rfl, b, _, 0, .int t', rfl, rfl, SqT.of hb, rfl, _, rfl, a, _, 1, .int u, rfl, rfl, SqT.of ha, rfl, t', u, rfl, rfl, c2, _, _, rfl, rfl, q⟩
/-! ### _law_is_behind -/
def spBehind : Sp := fun vs H Q _ => ∃ (x y : V) (d e : PyData) (S : Addr → Prop) (p q : Tm), vs = [x, y] ∧ DE S H x d ∧ DE S H y e ∧ tmOf d = some p ∧ tmOf e = some q ∧ ∀ b : Bool, (b = true ↔ ltK p.key q.key) → Q (.bl b) H
structure BhT (P : Program) (w : World) (K : PySem.W.Frag) (mg : Str → Option Value) (base : Heap) where
  fL : Addr
  fdL : FuncData
  FL : FnOk P w K mg base CX0 1 fL fdL ["_law_one", "_law_other"] spLess
  bL : Binds K fdL ["_law_one", "_law_other"] []
  gL : mg "_law_less" = some (.ref fL)
  kL : PySem.W.keepIn K (.ref fL) = true
theorem scBehind : FnScope ["_law_ahead", "_law_term"] ["_law_ahead", "_law_term"] (defScope sBehind) := ⟨rfl, rfl, rfl, by decide +kernel, rfl, by decide +kernel, by decide +kernel⟩
theorem dp_pair {H : Hp} {a : Addr} {t u : Int} (h : H a = some (.tup [.int t, .int u])) : Dp K H (.ref a) (.tuple [.int t, .int u]) := .tup (SqT.of h) (.cons (.int t) (.cons (.int u) .nil))
theorem eqv_pair {t u t' u' : Int} : PyData.eqv (.tuple [.int t, .int u]) (.tuple [.int t', .int u']) = true ↔ t = t' ∧ u = u' := by
  simp [PyData.eqv, PyData.eqvAll]
theorem tm_bounds {t u : Int} (h0 : 0 < u) (h4 : u ≤ 4) (h : (if t < 0 then -t else t) ≤ 4 * u) : -16 ≤ t ∧ t ≤ 16 := by
  split at h <;> omega
theorem ok_behind {f : Addr} {fd : FuncData} (F : Fun K "_law_is_behind" "_law_is_behind" sBehind f fd) (U : BhT P w K mg base) : FnOk P w K mg base CX0 2 f fd ["_law_ahead", "_law_term"] spBehind := by
  refine F.ok scBehind (fun vs H Q E h => ?_) (fun cdv A outer s H vs Q E hr h => ?_)
  · obtain ⟨x, y, d, e, S, p, q, rfl, _⟩ := h
    rfl
  · obtain ⟨x, y, d, e, S, p, q, rfl, hd, he, e1, e2, qq⟩ := h
    refine ⟨_, pss_cons (ps_if (pt_cmpR (op_eqD hr.units) (pe_ix ix_tup (pv 0) pe_int (fun _ _ => rfl)) (pe_ix ix_tup (pv 1) pe_int (fun _ _ => rfl)) (nomark _))
        (pss_one (ps_ret (pe_cmpR op_lt (pe_ix ix_tup (pv 0) pe_int (fun _ _ => rfl)) (pe_ix ix_tup (pv 1) pe_int (fun _ _ => rfl)) (nomark _)))) pss_nil)
      (pss_one (ps_ret (pe_call U.FL hr (by rfl) U.gL U.kL U.bL .nil pass0 (pa_cons (pe_ix ix_tup (pv 0) pe_int (fun _ _ => rfl)) (pa_cons (pe_ix ix_tup (pv 1) pe_int (fun _ _ => rfl)) pa_nil))))), ?_⟩
    obtain ⟨a, a1, a3, rfl, k0, k1, k3⟩ := de_term hd e1
    obtain ⟨b, b1, b3, rfl, l0, l1, l3⟩ := de_term he e2
    obtain ⟨_, _, _, _, m1, _, _, m4, m5⟩ := tmOf_some e1
    obtain ⟨_, _, _, _, n1, _, _, n4, n5⟩ := tmOf_some e2
    obtain ⟨_, m6, m7⟩ := pairD_some m1
    obtain ⟨_, n6, n7⟩ := pairD_some n1
    obtain ⟨m8, m9⟩ := tm_bounds m6 m4 m5
    obtain ⟨n8, n9⟩ := tm_bounds n6 n4 n5
    refine ⟨_, rfl, a, _, 2, .ref a3, rfl, rfl, SqT.of k0, rfl, _, rfl, b, _, 2, .ref b3, rfl, rfl, SqT.of l0, rfl, _, _, dp_pair k3, dp_pair l3, rfl, rfl, _, rfl, ?_⟩
    refine ite2 (fun c => ?_) (fun c => ?_)
    · obtain ⟨c1, c2⟩ := eqv_pair.mp c
      refine ⟨_, rfl, a, _, 1, .int p.2.1, rfl, rfl, SqT.of k0, rfl, _, rfl, b, _, 1, .int q.2.1, rfl, rfl, SqT.of l0, rfl, p.2.1, q.2.1, rfl, rfl, qq _ ?_⟩
      rw [decide_eq_true_iff]
      show p.2.1 < q.2.1 ↔ p.2.2.1 * q.2.2.2 < q.2.2.1 * p.2.2.2 ∨ (p.2.2.1 * q.2.2.2 = q.2.2.1 * p.2.2.2 ∧ p.2.1 < q.2.1)
      rw [c1, c2]
      simp
    · refine ⟨_, rfl, a, _, 2, .ref a3, rfl, rfl, SqT.of k0, rfl, _, rfl, b, _, 2, .ref b3, rfl, rfl, SqT.of l0, rfl, a3, b3, _, _, _, _, rfl, k3, l3, .inl ⟨by omega, by omega⟩, .inl ⟨by omega, by omega⟩, qq _ ?_⟩
      rw [decide_eq_true_iff]
      show p.2.2.1 * q.2.2.2 < q.2.2.1 * p.2.2.2 ↔ p.2.2.1 * q.2.2.2 < q.2.2.1 * p.2.2.2 ∨ (p.2.2.1 * q.2.2.2 = q.2.2.1 * p.2.2.2 ∧ p.2.1 < q.2.1)
      refine ⟨.inl, fun h => h.elim id fun h => ?_⟩
      exact absurd (eqv_pair.mpr (low_eq h.1 m7 n7 m6 n6)) c
/-! ### _law_due -/
def okBehind (prev : Option Tm) (t : Tm) : Prop := ∀ p, prev = some p → ltK p.key t.key
open Classical in
noncomputable def dueGo : Option Tm → Nat → List PyData → Option Nat
  | _, _, [] => none
  | prev, i, d :: ds => match tmOf d with | none => some i | some t => if okBehind prev t then dueGo (some t) (i + 1) ds else some i
/-- none: these are a curve's terms; else the index of what is wrong first -/
noncomputable def dueOf : PyData → Option Int
  | .tuple ds => if 8 < ds.length then some (-1) else (dueGo none 0 ds).map fun i : Nat => (i : Int)
  | _ => some (-1)
def told : Str := "told"
def spDue : Sp := fun vs H Q _ => ∃ (x : V) (d : PyData) (S : Addr → Prop), vs = [x] ∧ DE S H x d ∧ bdD d = true ∧ (∀ i, dueOf d = some i → ∀ H', Same H H' → Q (.int i) H') ∧
  (dueOf d = none → ∀ p H', Same H H' → H p = none → H' p = some (.tup [.str "told", x]) → Q (.ref p) H')
structure DueT (P : Program) (w : World) (K : PySem.W.Frag) (mg : Str → Option Value) (base : Heap) where
  fT : Addr
  fdT : FuncData
  fB : Addr
  fdB : FuncData
  FT : FnOk P w K mg base CX0 3 fT fdT ["_law_thing"] spIsTm
  FB : FnOk P w K mg base CX0 2 fB fdB ["_law_ahead", "_law_term"] spBehind
  bT : Binds K fdT ["_law_thing"] []
  bB : Binds K fdB ["_law_ahead", "_law_term"] []
  gT : mg "_law_is_term" = some (.ref fT)
  gB : mg "_law_is_behind" = some (.ref fB)
  kT : PySem.W.keepIn K (.ref fT) = true
  kB : PySem.W.keepIn K (.ref fB) = true
theorem scDue : FnScope ["_law_terms_here", "_law_index", "_law_term"] ["_law_terms_here"] (defScope sDue) := ⟨rfl, rfl, rfl, by decide +kernel, rfl, by decide +kernel, by decide +kernel⟩
theorem dueGo_step {ds : List PyData} {i : Nat} {d : PyData} (h : ds[i]? = some d) : ds.drop i = d :: ds.drop (i + 1) := by
  have hlt := (List.getElem?_eq_some_iff.mp h).1
  rw [List.drop_eq_getElem_cons hlt]
  congr 1
  exact (List.getElem?_eq_some_iff.mp h).2
open Classical in
theorem ok_due {f : Addr} {fd : FuncData} (F : Fun K "_law_due" "_law_due" sDue f fd) (T : JudT mg) (U : DueT P w K mg base) : FnOk P w K mg base CX0 4 f fd ["_law_terms_here"] spDue := by
  refine F.ok scDue (fun vs H Q E h => ?_) (fun cdv A outer s H vs Q E hr h => ?_)
  · obtain ⟨x, d, S, rfl, _⟩ := h
    rfl
  · obtain ⟨x, d, S, rfl, hd, bd, q1, q2⟩ := h
    have hr2 : Room 2 _ := hr.mono (by decide)
    refine ⟨_, pss_cons (ps_if (PW.pt (pw_or (pt_not (pt_val (pe_callB call_isi (by rfl) T.isi (by decide +kernel) (pa_cons (pv 0) (pa_cons (pe_bltn (v := .ty "tuple") (by rfl) T.tup (by decide +kernel) rfl) pa_nil)))))
          (pw_or1 (pt_cmpR op_gt (pe_callB call_len_seq (by rfl) T.len PySem.boot_len (pa_cons (pv 0) pa_nil)) pe_int (nomark _))))) (pss_one (ps_ret (pe_un un_neg pe_int))) pss_nil)
      (pss_cons (ps_for PassesOwn.never rfl (pi_enumT (by rfl) T.enum (pa_cons (pv 0) pa_nil)) (pg_tup rfl (pgs_cons (pg_name (i := 1) scDue.nd rfl (.inl rfl)) (pgs_cons (pg_name (i := 2) scDue.nd rfl (.inl rfl)) pgs_nil)))
        (pss_one (ps_if (PW.pt (pw_or (pt_not (pt_val (pe_call U.FT hr (by rfl) U.gT U.kT U.bT .nil pass0 (pa_cons (pv 2) pa_nil))))
            (pw_or1 (PW.pt (pw_and (pt_cmpR op_gt (pv 1) pe_int (nomark _)) (pw_and1 (pt_not (pt_val (pe_call U.FB hr2 (by rfl) U.gB U.kB U.bB .nil pass0 (pa_cons (pe_ix ix_tup (pv 0) (pe_op op_sub (pv 1) pe_int) (fun _ _ => rfl)) (pa_cons (pv 2) pa_nil))))))))))) (pss_one (ps_ret (pv 1))) pss_nil)))
      (pss_one (ps_ret (pe_tup (pa_cons pe_str (pa_cons (pv 0) pa_nil)))))), ?_⟩
    refine ⟨_, rfl, _, _, _, _, _, rfl, .ty "tuple", de_ty hd, kit_t d, _, rfl, ?_⟩
    cases hd with
    | non => exact iteT ⟨1, rfl, q1 _ rfl _ fun _ _ h => h⟩
    | bl b => exact iteT ⟨1, rfl, q1 _ rfl _ fun _ _ h => h⟩
    | int i => exact iteT ⟨1, rfl, q1 _ rfl _ fun _ _ h => h⟩
    | str x => exact iteT ⟨1, rfl, q1 _ rfl _ fun _ _ h => h⟩
    | lst _ _ _ => exact iteT ⟨1, rfl, q1 _ rfl _ fun _ _ h => h⟩
    | dic _ _ => exact iteT ⟨1, rfl, q1 _ rfl _ fun _ _ h => h⟩
    | @tup a xs ds hS ha hx =>
      refine iteF ?_
      have hl := hx.len
      refine ⟨_, rfl, a, xs, rfl, .inr (SqT.of ha), _, 8, rfl, rfl, _, rfl, ?_⟩
      refine ite2 (fun c => ⟨1, rfl, q1 _ ?_ _ fun _ _ h => h⟩) (fun c => ?_)
      · have c : (8 : Int) < xs.length := of_decide_eq_true c
        show (if 8 < ds.length then some (-1 : Int) else _) = _
        rw [if_pos (by omega)]
      have c8 : ¬ 8 < ds.length := fun z => c (decide_eq_true (by omega))
      have e0 : dueOf (.tuple ds) = (dueGo none 0 ds).map fun i : Nat => (i : Int) := if_neg c8
      refine ⟨_, rfl, a, xs, rfl, SqT.of ha, ?_⟩
      refine for_enumT (K := K) (a := a) (xs := xs) (fun i σ H' => Same H H' ∧ ∃ (y z : Option V) (prev : Option Tm), σ = [some (.ref a), y, z] ∧ dueGo none 0 ds = dueGo prev i (ds.drop i) ∧
          (i = 0 → prev = none) ∧ (∀ j, i = j + 1 → ∃ d p, ds[j]? = some d ∧ tmOf d = some p ∧ prev = some p))
        ⟨fun _ _ h => h, none, none, none, rfl, rfl, fun _ => rfl, fun j z => by cases z⟩ (fun i σ H' _ h => SqT.of (h.1 _ _ ha)) (fun i x Tt σ H' hi h hT => ?_) (fun σ H' h => ?_)
      · obtain ⟨sm, y, z, prev, rfl, eg, p0, p1⟩ := h
        obtain ⟨dd, hdd, rdd⟩ := hx.at hi
        have bdd : bdD dd = true := bdT bd dd (List.mem_of_getElem? hdd)
        have s1 : Same H (L2.upd H' Tt (.tup [.int (i : Nat), x])) := sm.trans (same_upd hT)
        have hTt : L2.upd H' Tt (.tup [.int (i : Nat), x]) Tt = some (.tup [.int (i : Nat), x]) := upd_same
        generalize L2.upd H' Tt (.tup [.int (i : Nat), x]) = H1 at *
        refine ⟨Tt, _, rfl, SqT.of hTt, rfl, _, _, rfl, _, _, rfl, rfl, ?_⟩
        rw [dueGo_step hdd] at eg
        refine ⟨_, rfl, x, dd, S, rfl, DE.same s1 rdd, bdd, fun H2 s2 => ⟨_, rfl, ?_⟩⟩
        have s12 := s1.trans s2
        cases et : tmOf dd with
        | none =>
          refine iteT ⟨_, rfl, q1 _ ?_ _ s12⟩
          rw [e0, eg]
          show Option.map _ (match tmOf dd with | none => some i | some t => _) = _
          rw [et]
          rfl
        | some t =>
          refine iteF ?_
          have step : dueGo prev i (dd :: ds.drop (i + 1)) = if okBehind prev t then dueGo (some t) (i + 1) (ds.drop (i + 1)) else some i := by
            show (match tmOf dd with | none => some i | some t => _) = _
            rw [et]
          rw [step] at eg
          have next : okBehind prev t → Same H H2 ∧ ∃ (y z : Option V) (prev : Option Tm), ([some (.ref a), some (.int (i : Nat)), some x] : L2.St) = [some (.ref a), y, z] ∧ dueGo none 0 ds = dueGo prev (i + 1) (ds.drop (i + 1)) ∧
              (i + 1 = 0 → prev = none) ∧ (∀ j, i + 1 = j + 1 → ∃ d p, ds[j]? = some d ∧ tmOf d = some p ∧ prev = some p) := fun ok => by
            rw [if_pos ok] at eg
            refine ⟨s12, _, _, some t, rfl, eg, fun z => (Nat.succ_ne_zero i z).elim, fun j z => ?_⟩
            obtain rfl : i = j := by omega
            exact ⟨dd, t, hdd, et, rfl⟩
          refine ⟨_, rfl, (i : Nat), 0, rfl, rfl, _, rfl, ?_⟩
          refine ite2 (fun c0 => ?_) (fun c0 => ?_)
          · have c0 : (0 : Int) < (i : Nat) := of_decide_eq_true c0
            obtain ⟨j, rfl⟩ : ∃ j, i = j + 1 := ⟨i - 1, by omega⟩
            obtain ⟨dj, p, hj, ej, rfl⟩ := p1 j rfl
            have hjl := (List.getElem?_eq_some_iff.mp hj).1
            obtain ⟨xj, hxj⟩ : ∃ xj, xs[j]? = some xj := ⟨xs[j]'(by omega), List.getElem?_eq_getElem _⟩
            obtain ⟨dj', hj', rj⟩ := hx.at hxj
            rw [hj] at hj'
            obtain rfl := Option.some.inj hj'
            refine ⟨_, rfl, _, rfl, ((j + 1 : Nat) : Int), 1, rfl, rfl, a, _, _, xj, rfl, rfl, SqT.of (s12 _ _ ha), ?_, ?_⟩
            · have e : ((j + 1 : Nat) : Int) - 1 = (j : Nat) := by omega
              rw [e]
              exact atI_nat hxj
            refine ⟨_, rfl, xj, x, dj, dd, S, p, t, rfl, DE.same s12 rj, DE.same s12 rdd, ej, et, fun b hb => ⟨b, rfl, ?_⟩⟩
            cases b with
            | true => exact iteF (next fun p' e => by obtain rfl := Option.some.inj e; exact hb.mp rfl)
            | false =>
              refine iteT ⟨_, rfl, q1 _ ?_ _ s12⟩
              have no : ¬ okBehind (some p) t := fun ok => by
                have := hb.mpr (ok p rfl)
                cases this
              rw [e0, eg, if_neg no]
              rfl
          · have c0 : ¬ (0 : Int) < (i : Nat) := fun z => c0 (decide_eq_true z)
            have i0 : i = 0 := by omega
            exact next fun p e => by
              rw [p0 i0] at e
              cases e
      · obtain ⟨sm, y, z, prev, rfl, eg, _, _⟩ := h
        have hnone : dueOf (.tuple ds) = none := by
          rw [e0, eg, List.drop_eq_nil_of_le (by omega)]
          rfl
        refine ⟨_, rfl, (by show 2 ≤ sizeLine; decide), fun p hp => q2 hnone p _ (sm.trans (same_upd hp)) (sm.free hp) upd_same⟩
end
end Nm

/-! raise C(v), C an own class whose __init__ says super().__init__(text); self.f = v. -/
namespace Nm
open PySem PySem.Spec PyProof.Rows L2
def tMkF (C : Addr) (f : Str) (ta : TA) : L2.St → Hp → XK → Prop := fun σ H Q => ta σ H fun vs H1 => ∃ v, vs = [v] ∧ ∀ d, H1 d = none → Q (.ref C) (some d) (L2.upd H1 d (.xd [(f, v)]))
theorem pmk_newF {X : Cx} {st : Stmt} {qual f txt file x : Str} {C fI cc cda : Addr} {a : Expr} {ta : TA} {p pos : Pos} (T : XI X.K st qual C fI cc cda f txt file) (pf : PF X.prog file) (hms : X.mg "super" = none) {k : Nat} (hr : Room k X.A) (gC : X.mg x = some (.ref C)) (ha : PA X [a] ta)
    (exC : PySem.W.subIn X.K (.ref C) (.type "BaseException") = some true) (tyC : PySem.W.typeIn X.K (.ref C) = some (.type "type")) (hg : Gl X x := by rfl)
    (hdb : (x == ("__debug__" : Str)) = false := by decide) (he : starEach (a :: []) X.env = (false, eval a X.env) :: starEach [] X.env := by rfl) (hpl : (backTo pos (starEach [] X.env)).any (·.1) = false := by rfl) :
    PMk X (.Call (.Name x p) [a] [] pos) (tMkF C f ta) := by
  intro pins s σ H Q I h
  obtain ⟨nm, q, N, bs, bm, sn, sub, ab, col, dd, k0, k1, k2, k3, k5, hC, hbm⟩ := T.cls
  refine wpAny_Call_Name_kw (ld_glob I hg gC ?_ hdb)
  refine PySem.W.callWith_K (h₀ := X.base) I.ok.mod.kin T.xt.kp (thn (ha.run pos pins s σ H _ I h) fun us s1 hh => ?_) he hpl
  obtain ⟨vs, H1, I1, r1, v, ev, q1⟩ := hh
  subst ev
  refine ⟨I1.kIn, ?_⟩
  cases r1 with
  | cons rv rn =>
    rename_i v' us'
    cases rn
    show wpAny _ _ (call (.ref C) [v']) _ _ _
    have hlim := I1.nolimit
    have hK := I1.kIn
    have hgl : s1.heap.Ns mainGlobals X.mg := I1.mod.glob.keeps I1.bk
    have hbl : ∃ mb, s1.heap.Ns builtinsNs mb ∧ ∀ y : Str, y ≠ "__name__" → mb y = bootBuiltins y := by
      obtain ⟨mb, h1, h2⟩ := I1.mod.blt
      exact ⟨mb, h1.keeps I1.bk, h2⟩
    obtain ⟨hp, g, dr, tk, os⟩ := s1
    have kk : ∀ b o, hp.get? b = some o → ((hp.push (PySem.W.kdv_tup [v'])).push (HandSPX.excO C hp.objs.size)).get? b = some o := fun b o e => Heap.get?_push_of_some _ (Heap.get?_push_of_some _ e)
    have hget : ((hp.push (PySem.W.kdv_tup [v'])).push (HandSPX.excO C hp.objs.size)).get? (hp.objs.size + 1) = some (HandSPX.excO C hp.objs.size) := by heap_get
    have hnew : hp.get? (hp.objs.size + 1) = none := Heap.get?_none_of_le (Nat.le_succ _)
    refine wpAny_call (HandSPX.call_own F.excBase_ValueError (fun Y => HandSPX.refsVE_contains Y bm hbm) (hK _ _ hC) (PySem.W.looks_findIn hK T.iC) (fun self => PySem.W.bind_fn hK self T.tI) (by show 1 ≤ sizeLine; rw [sizeLine_eq]; decide) ?_)
    refine xinit (h₀ := hp) (mg := X.mg) T pf hK hgl hms hbl kk (hlim.keeps kk) hget hnew (by rw [Heap.size_push, Heap.size_push]; omega) ?_ (fun h' tk' t1 dx k' dn dne hx hns => ?_)
    · show X.A.depth + 1 < recursionLimit
      have := hr.dp
      omega
    refine ⟨rfl, ?_⟩
    show MkP X pins σ Q (.ref (hp.objs.size + 1)) ⟨h', g, dr, tk', os⟩
    obtain ⟨G, g1, g2⟩ := restrict h' fun b => decide (b ≠ hp.objs.size + 1)
    have gk : ∀ b, b ≠ hp.objs.size + 1 → G.get? b = h'.get? b := fun b hb => g1 b (decide_eq_true hb)
    have ge : G.get? (hp.objs.size + 1) = none := g2 _ (by simp)
    have old : ∀ b o, hp.get? b = some o → G.get? b = some o := fun b o e => (gk b (Nat.ne_of_lt (Nat.lt_succ_of_lt (Heap.lt_size e)))).trans (k' b o e)
    have J : Inv X pins σ (L2.upd H1 dx (.xd [(f, v)])) ⟨G, g, dr, tk', os⟩ := I1.laid (t' := tk') old dn ⟨_, hns.at (fun o q => (gk dx dne).trans q), fun y => relO_one rv y⟩
    refine ⟨hp.objs.size + 1, _, _, ⟨G, g, dr, tk', os⟩, _, .ref C, some dx, rfl, J, fun b o q => ?_, ge, hx, ⟨rfl, rfl⟩, rfl, rfl, ?_, rfl, I1.bare, raises_own exC tyC, q1 dx (I1.hok.fresh dn)⟩
    · by_cases hb : b = hp.objs.size + 1
      · have q' : G.get? b = some o := q
        rw [hb, ge] at q'; cases q'
      · exact (gk b hb).symm.trans q
    · rw [upd_ne (Ne.symm dne)]
      exact I1.hok.fresh (Nat.le_succ _)
/-- isinstance(e, c), e the exception with a dict that the suite holds -/
def rIsD (K : PySem.W.Frag) (a : Addr) (cls : Value) (d : Option Addr) : List V → Hp → VK → Prop := fun xs H Q => ∃ (C dd : Addr) (c : V) (u : Value) (b : Bool) (fs : List (Str × V)), xs = [.ref a, c] ∧ cls = .ref C ∧ d = some dd ∧ XT K C ∧ ClsV c u ∧ H dd = some (.xd fs) ∧ PySem.W.kitOne K (.ref C) u = some b ∧ Q (.bl b) H
theorem call_isD {X : Cx} {a : Addr} {oe : Obj} {cls : Value} {d : Option Addr} {pn : List (Addr × Obj)} (hz : Zc cls d oe) (hf : ∃ vs, oe.data = .fields vs) : CallR (X.suite a ((a, oe) :: pn)) (.builtin "isinstance") (rIsD X.K a cls d) := by
  intro pins s σ H xs us Q I r h
  obtain ⟨C, dd, c, u, b, fs, rfl, rfl, rfl, T, k, ea, e, q⟩ := h
  obtain ⟨u1, u2, rfl, r1, r2⟩ := vals2 r
  have e2 := k.eq r2
  subst e2
  obtain rfl : u1 = Value.ref a := r1
  obtain ⟨ha, _⟩ := I.pin (a, oe) (List.mem_append_left _ List.mem_cons_self)
  obtain ⟨vs, hd⟩ := hf
  have hx : ObjOk X.prog X.w H s.heap dd (.xd fs) := I.hok dd _ ea
  obtain ⟨mA, hns, hr⟩ := hx
  obtain ⟨od, ho, hl⟩ := lookIn_ns hns
  have J : PySem.W.InstAt s.heap a oe C (some od) := ⟨ha, hz.1, by unfold PySem.W.notCls; rw [hd] <;> rfl, by rw [hz.2]; exact ho⟩
  exact PySem.W.kia_one (PySem.W.kitx_exc T.cl T.ga T.gt T.sub T.ca T.gs T.tk T.mr) I.kIn J e (fun z => nomatch z) fun tk => ⟨.bl b, H, I.kept (t' := tk) fun _ _ z => z, rfl, q⟩
end Nm

/-! The program's own judging: is_integer, is_number, is_fraction, less, is_rate, is_term, stands_behind. -/
namespace Nm
open PySem PySem.Spec PyProof.Rows L2 LamX
abbrev pInteger : Stmt := topS 6
abbrev pNumber : Stmt := topS 7
abbrev pFraction : Stmt := topS 8
abbrev pLess : Stmt := topS 9
abbrev pTerm : Stmt := topS 17
abbrev pRate : Stmt := topS 18
abbrev pBehind : Stmt := topS 19
section
variable {P : Program} {w : World} {K : PySem.W.Frag} {mg : Str → Option Value} {base : Heap}
def spInteger : Sp := fun vs H Q _ => ∃ (x : V) (d : PyData) (S : Addr → Prop), vs = [x] ∧ DE S H x d ∧ Q (.bl (intB d)) H
theorem scInteger : FnScope ["thing"] ["thing"] (defScope pInteger) := ⟨rfl, rfl, rfl, by decide +kernel, rfl, by decide +kernel, by decide +kernel⟩
theorem ok_integer {f : Addr} {fd : FuncData} {k : Nat} (F : Fun K "is_integer" "is_integer" pInteger f fd) (T : JudT mg) : FnOk P w K mg base CX0 (k + 1) f fd ["thing"] spInteger := by
  refine F.ok scInteger (fun vs H Q E h => ?_) (fun cdv A outer s H vs Q E hr h => ?_)
  · obtain ⟨x, d, S, rfl, _⟩ := h
    rfl
  · obtain ⟨x, d, S, rfl, hd, q⟩ := h
    refine ⟨_, pss_one (ps_ret (pe_and (pe_callB call_isi (by rfl) T.isi (by decide +kernel) (pa_cons (pv 0) (pa_cons (pe_bltn (v := .ty "int") (by rfl) T.int (by decide +kernel) rfl) pa_nil)))
      (pe_one (pe_not (pe_callB call_isi (by rfl) T.isi (by decide +kernel) (pa_cons (pv 0) (pa_cons (pe_bltn (v := .ty "bool") (by rfl) T.bool (by decide +kernel) rfl) pa_nil))))))), ?_⟩
    refine ⟨_, rfl, _, _, _, _, _, rfl, .ty "int", de_ty hd, kit_i d, _, rfl, ?_⟩
    have fin : ∀ b : Bool, intB d = b → Q (.bl b) H := fun b e => by rw [← e]; exact q
    cases hd with
    | int i =>
      refine iteT ?_
      exact ⟨_, rfl, _, _, _, _, _, rfl, .ty "bool", de_ty (.int i : DE S H _ _), kit_b (.int i), _, rfl, fin _ rfl⟩
    | bl b =>
      refine iteT ?_
      exact ⟨_, rfl, _, _, _, _, _, rfl, .ty "bool", de_ty (.bl b : DE S H _ _), kit_b (.bool b), _, rfl, fin _ rfl⟩
    | non => exact iteF (fin _ rfl)
    | str x => exact iteF (fin _ rfl)
    | lst _ _ _ => exact iteF (fin _ rfl)
    | tup _ _ _ => exact iteF (fin _ rfl)
    | dic _ _ => exact iteF (fin _ rfl)
structure IntT (P : Program) (w : World) (K : PySem.W.Frag) (mg : Str → Option Value) (base : Heap) where
  fI : Addr
  fdI : FuncData
  FI : FnOk P w K mg base CX0 1 fI fdI ["thing"] spInteger
  bI : Binds K fdI ["thing"] []
  gI : mg "is_integer" = some (.ref fI)
  kI : PySem.W.keepIn K (.ref fI) = true
  gcd : mg "gcd" = some (.builtin "math.gcd")
def numB : PyData → Bool | .int i => decide (0 ≤ i) | _ => false
def spNumber : Sp := fun vs H Q _ => ∃ (x : V) (d : PyData) (S : Addr → Prop), vs = [x] ∧ DE S H x d ∧ Q (.bl (numB d)) H
theorem scNumber : FnScope ["thing"] ["thing"] (defScope pNumber) := ⟨rfl, rfl, rfl, by decide +kernel, rfl, by decide +kernel, by decide +kernel⟩
theorem ok_number {f : Addr} {fd : FuncData} (F : Fun K "is_number" "is_number" pNumber f fd) (U : IntT P w K mg base) : FnOk P w K mg base CX0 2 f fd ["thing"] spNumber := by
  refine F.ok scNumber (fun vs H Q E h => ?_) (fun cdv A outer s H vs Q E hr h => ?_)
  · obtain ⟨x, d, S, rfl, _⟩ := h
    rfl
  · obtain ⟨x, d, S, rfl, hd, q⟩ := h
    refine ⟨_, pss_one (ps_ret (pe_and (pe_call U.FI hr (by rfl) U.gI U.kI U.bI .nil pass0 (pa_cons (pv 0) pa_nil)) (pe_one (pe_cmpR op_ge (pv 0) pe_int (nomark _))))), ?_⟩
    have fin : ∀ b : Bool, numB d = b → Q (.bl b) H := fun b e => by rw [← e]; exact q
    refine ⟨_, rfl, x, d, S, rfl, hd, _, rfl, ?_⟩
    cases hd with
    | int i =>
      refine iteT ?_
      exact ⟨_, rfl, i, 0, rfl, rfl, fin _ rfl⟩
    | bl b => exact iteF (fin _ rfl)
    | non => exact iteF (fin _ rfl)
    | str x => exact iteF (fin _ rfl)
    | lst _ _ _ => exact iteF (fin _ rfl)
    | tup _ _ _ => exact iteF (fin _ rfl)
    | dic _ _ => exact iteF (fin _ rfl)
/-! ### is_fraction -/
def spFraction : Sp := fun vs H Q _ => ∃ (x : V) (d : PyData) (S : Addr → Prop), vs = [x] ∧ DE S H x d ∧ Q (.bl (pairD d).isSome) H
theorem scFraction : FnScope ["thing", "top", "bottom"] ["thing"] (defScope pFraction) := ⟨rfl, rfl, rfl, by decide +kernel, rfl, by decide +kernel, by decide +kernel⟩
theorem ok_fraction {f : Addr} {fd : FuncData} (F : Fun K "is_fraction" "is_fraction" pFraction f fd) (T : JudT mg) (U : IntT P w K mg base) : FnOk P w K mg base CX0 2 f fd ["thing"] spFraction := by
  refine F.ok scFraction (fun vs H Q E h => ?_) (fun cdv A outer s H vs Q E hr h => ?_)
  · obtain ⟨x, d, S, rfl, _⟩ := h
    rfl
  · obtain ⟨x, d, S, rfl, hd, q⟩ := h
    refine ⟨_, pss_cons (ps_if (PW.pt (pw_or (pt_not (pt_val (pe_callB call_isi (by rfl) T.isi (by decide +kernel) (pa_cons (pv 0) (pa_cons (pe_bltn (v := .ty "tuple") (by rfl) T.tup (by decide +kernel) rfl) pa_nil)))))
          (pw_or1 (pt_cmpR op_ne (pe_callB call_len_seq (by rfl) T.len PySem.boot_len (pa_cons (pv 0) pa_nil)) pe_int (nomark _))))) (pss_one (ps_ret pe_bl)) pss_nil)
      (pss_cons (ps_asg (pv 0) (pg_tup (by rfl) (pgs_cons (pg_name (i := 1) scFraction.nd rfl (.inl rfl)) (pgs_cons (pg_name (i := 2) scFraction.nd rfl (.inl rfl)) pgs_nil))))
      (pss_cons (ps_if (PW.pt (pw_or (pt_not (pt_val (pe_call U.FI hr (by rfl) U.gI U.kI U.bI .nil pass0 (pa_cons (pv 1) pa_nil)))) (pw_or1 (pt_not (pt_val (pe_call U.FI hr (by rfl) U.gI U.kI U.bI .nil pass0 (pa_cons (pv 2) pa_nil))))))) (pss_one (ps_ret pe_bl)) pss_nil)
      (pss_one (ps_ret (pe_and (pe_cmpR op_gt (pv 2) pe_int (nomark _)) (pe_one (pe_cmpR op_eq (pe_callBfun cr_gcd (by rfl) U.gcd (pa_cons (pv 1) (pa_cons (pv 2) pa_nil))) pe_int (nomark _)))))))), ?_⟩
    have fin : ∀ b : Bool, (pairD d).isSome = b → Q (.bl b) H := fun b e => by rw [← e]; exact q
    refine ⟨_, rfl, _, _, _, _, _, rfl, .ty "tuple", de_ty hd, kit_t d, _, rfl, ?_⟩
    cases hd with
    | non => exact iteT (fin _ rfl)
    | bl b => exact iteT (fin _ rfl)
    | int i => exact iteT (fin _ rfl)
    | str x => exact iteT (fin _ rfl)
    | lst _ _ _ => exact iteT (fin _ rfl)
    | dic _ _ => exact iteT (fin _ rfl)
    | @tup a xs ds hS ha hx =>
      refine iteF ?_
      refine ⟨_, rfl, a, xs, rfl, .inr (SqT.of ha), rfl, _, rfl, ?_⟩
      have hl := hx.len
      refine ite2 (fun c => fin _ ?_) (fun c => ?_)
      · refine congrArg Option.isSome (pairD_no fun a b z => ?_)
        have z : ds = [.int a, .int b] := by injection z
        rw [z] at hl
        have hl : xs.length = 2 := hl
        rw [hl] at c
        exact absurd c (by decide)
      · have h2 : xs.length = 2 := by
          by_cases z : xs.length = 2
          · exact z
          · exact absurd (by simp; omega) c
        have l2 : ds.length = 2 := by omega
        obtain ⟨d1, d2, rfl⟩ : ∃ d1 d2, ds = [d1, d2] := by
          match ds, l2 with
          | [d1, d2], _ => exact ⟨d1, d2, rfl⟩
        obtain ⟨x1, x2, rfl⟩ : ∃ x1 x2, xs = [x1, x2] := by
          match xs, h2 with
          | [x1, x2], _ => exact ⟨x1, x2, rfl⟩
        obtain ⟨r1, r2⟩ : DE S H x1 d1 ∧ DE S H x2 d2 := by
          cases hx with
          | cons r1 r =>
          cases r with
          | cons r2 r => exact ⟨r1, r2⟩
        refine ⟨_, rfl, a, _, rfl, SqT.of ha, rfl, _, _, rfl, _, _, rfl, rfl, ?_⟩
        have no : (intB d1 && intB d2) = false → (pairD (.tuple [d1, d2])).isSome = false := fun c2 => by
          refine congrArg Option.isSome (pairD_no fun a b z => ?_)
          have z : [d1, d2] = [.int a, .int b] := by injection z
          injection z with z1 z2
          injection z2 with z2
          rw [z1, z2] at c2
          cases c2
        refine ⟨_, rfl, x1, d1, S, rfl, r1, _, rfl, ?_⟩
        refine ite2 (fun c2 => fin _ (no (by simp at c2; simp [c2]))) (fun c2 => ?_)
        refine ⟨_, rfl, x2, d2, S, rfl, r2, _, rfl, ?_⟩
        refine ite2 (fun c3 => fin _ (no (by simp at c3; simp [c3]))) (fun c3 => ?_)
        obtain ⟨i1, rfl⟩ := intB_int (d := d1) (by simpa using c2)
        obtain ⟨i2, rfl⟩ := intB_int (d := d2) (by simpa using c3)
        cases r1
        cases r2
        refine ⟨_, rfl, i2, 0, rfl, rfl, _, rfl, ?_⟩
        refine ite2 (fun c6 => ?_) (fun c6 => ?_)
        · have c6 : 0 < i2 := of_decide_eq_true c6
          refine ⟨_, rfl, _, rfl, i1, i2, rfl, rfl, fin _ ?_⟩
          show Option.isSome (if 0 < i2 ∧ Int.gcd i1 i2 = 1 then some (i1, i2) else none) = decide (V.int (Int.gcd i1 i2 : Int) = V.int 1)
          by_cases g : Int.gcd i1 i2 = 1
          · simp [c6, g]
          · have : ¬ ((Int.gcd i1 i2 : Int) = 1) := by omega
            simp [g, this]
        · have c6 : ¬ 0 < i2 := fun z => c6 (decide_eq_true z)
          refine fin _ ?_
          show Option.isSome (if 0 < i2 ∧ Int.gcd i1 i2 = 1 then some (i1, i2) else none) = false
          simp [c6]
/-! ### less -/
theorem scPLess : FnScope ["one", "other"] ["one", "other"] (defScope pLess) := ⟨rfl, rfl, rfl, by decide +kernel, rfl, by decide +kernel, by decide +kernel⟩
theorem ok_pless {f : Addr} {fd : FuncData} {k : Nat} (F : Fun K "less" "less" pLess f fd) : FnOk P w K mg base CX0 (k + 1) f fd ["one", "other"] spLess := by
  refine F.ok scPLess (fun vs H Q E h => ?_) (fun cdv A outer s H vs Q E hr h => ?_)
  · obtain ⟨a, b, t, u, t', u', rfl, _⟩ := h
    rfl
  · obtain ⟨a, b, t, u, t', u', rfl, ha, hb, c1, c2, q⟩ := h
    refine ⟨_, pss_one (ps_ret (pe_cmpR op_lt (pe_op op_mul (pe_ix ix_tup (pv 0) pe_int (fun _ _ => rfl)) (pe_ix ix_tup (pv 1) pe_int (fun _ _ => rfl))) (pe_op op_mul (pe_ix ix_tup (pv 1) pe_int (fun _ _ => rfl)) (pe_ix ix_tup (pv 0) pe_int (fun _ _ => rfl))) (nomark _))), ?_⟩
    refine ⟨_, rfl, a, _, 0, .int t, rfl, rfl, SqT.of ha, rfl, _, rfl, b, _, 1, .int u', rfl, rfl, SqT.of hb, rfl, t, u', rfl, rfl, c1, _, rfl, b, _, 0, .int t', rfl, rfl, SqT.of hb, rfl, _, rfl, a, _, 1, .int u, rfl, rfl, SqT.of ha, rfl, t', u, rfl, rfl, c2, _, _, rfl, rfl, q⟩
/-! ### is_rate -/
structure PjT (P : Program) (w : World) (K : PySem.W.Frag) (mg : Str → Option Value) (base : Heap) where
  fF : Addr
  fdF : FuncData
  fN : Addr
  fdN : FuncData
  fL : Addr
  fdL : FuncData
  nil : Addr
  FF : FnOk P w K mg base CX0 2 fF fdF ["thing"] spFraction
  FN : FnOk P w K mg base CX0 2 fN fdN ["thing"] spNumber
  FL : FnOk P w K mg base CX0 1 fL fdL ["one", "other"] spLess
  bF : Binds K fdF ["thing"] []
  bN : Binds K fdN ["thing"] []
  bL : Binds K fdL ["one", "other"] []
  gF : mg "is_fraction" = some (.ref fF)
  gN : mg "is_number" = some (.ref fN)
  gL : mg "less" = some (.ref fL)
  kF : PySem.W.keepIn K (.ref fF) = true
  kN : PySem.W.keepIn K (.ref fN) = true
  kL : PySem.W.keepIn K (.ref fL) = true
  gNil : mg "NIL" = some (.ref nil)
  dNil : ∀ H : Hp, Dp K H (.ref nil) (.tuple [.int 0, .int 1])
  mT : ∃ t, mg "MOST_TERMS" = some (.int 8 t)
  mP : ∃ t, mg "MOST_POWER" = some (.int 3 t)
  mR : ∃ t, mg "MOST_RATE" = some (.int 4 t)
  mB : ∃ t, mg "MOST_BOTTOM" = some (.int 4 t)
def rateB (d : PyData) : Bool := match pairD d with | some q => decide (q.2 ≤ 4) && decide ((if q.1 < 0 then -q.1 else q.1) ≤ 4 * q.2) | none => false
def spRate : Sp := fun vs H Q _ => ∃ (x : V) (d : PyData) (S : Addr → Prop), vs = [x] ∧ DE S H x d ∧ Q (.bl (rateB d)) H
theorem scRate : FnScope ["thing", "top", "bottom"] ["thing"] (defScope pRate) := ⟨rfl, rfl, rfl, by decide +kernel, rfl, by decide +kernel, by decide +kernel⟩
theorem ok_rate {f : Addr} {fd : FuncData} (F : Fun K "is_rate" "is_rate" pRate f fd) (T : JudT mg) (U : PjT P w K mg base) : FnOk P w K mg base CX0 3 f fd ["thing"] spRate := by
  refine F.ok scRate (fun vs H Q E h => ?_) (fun cdv A outer s H vs Q E hr h => ?_)
  · obtain ⟨x, d, S, rfl, _⟩ := h
    rfl
  · obtain ⟨x, d, S, rfl, hd, q⟩ := h
    obtain ⟨t1, mR⟩ := U.mR
    obtain ⟨t2, mB⟩ := U.mB
    refine ⟨_, pss_cons (ps_if (pt_not (pt_val (pe_call U.FF hr (by rfl) U.gF U.kF U.bF .nil pass0 (pa_cons (pv 0) pa_nil)))) (pss_one (ps_ret pe_bl)) pss_nil)
      (pss_cons (ps_asg (pv 0) (pg_tup (by rfl) (pgs_cons (pg_name (i := 1) scRate.nd rfl (.inl rfl)) (pgs_cons (pg_name (i := 2) scRate.nd rfl (.inl rfl)) pgs_nil))))
      (pss_one (ps_ret (pe_and (pe_cmpR op_le (pv 2) (pe_glob (v := .int 4) (by rfl) mB ⟨_, rfl⟩) (nomark _)) (pe_one (pe_cmpR op_le (pe_callB call_abs (by rfl) T.abs (by decide +kernel) (pa_cons (pv 1) pa_nil)) (pe_op op_mul (pe_glob (v := .int 4) (by rfl) mR ⟨_, rfl⟩) (pv 2)) (nomark _))))))), ?_⟩
    have fin : ∀ b : Bool, rateB d = b → Q (.bl b) H := fun b e => by rw [← e]; exact q
    refine ⟨_, rfl, x, d, S, rfl, hd, _, rfl, ?_⟩
    cases e : pairD d with
    | none => exact iteT (fin _ (by unfold rateB; rw [e]))
    | some p =>
      refine iteF ?_
      obtain ⟨a, rfl, k⟩ := de_pair hd e
      refine ⟨_, rfl, a, _, rfl, SqT.of k, rfl, _, _, rfl, _, _, rfl, rfl, ?_⟩
      have er : rateB d = (decide (p.2 ≤ 4) && decide ((if p.1 < 0 then -p.1 else p.1) ≤ 4 * p.2)) := by unfold rateB; rw [e]
      refine ⟨_, rfl, p.2, 4, rfl, rfl, _, rfl, ?_⟩
      refine ite2 (fun c => ?_) (fun c => fin _ ?_)
      · refine ⟨_, rfl, p.1, rfl, _, rfl, 4, p.2, rfl, rfl, .inl (by decide), _, _, rfl, rfl, fin _ ?_⟩
        rw [er, c, Bool.true_and]
      · have c : decide (p.2 ≤ 4) = false := by simpa using c
        rw [er, c, Bool.false_and]
/-! ### is_term -/
def spPTerm : Sp := fun vs H Q _ => ∃ (x : V) (d : PyData) (S : Addr → Prop), vs = [x] ∧ DE S H x d ∧ Q (.bl (tmOf d).isSome) H
structure PkT (P : Program) (w : World) (K : PySem.W.Frag) (mg : Str → Option Value) (base : Heap) extends PjT P w K mg base where
  fR : Addr
  fdR : FuncData
  FR : FnOk P w K mg base CX0 3 fR fdR ["thing"] spRate
  bR : Binds K fdR ["thing"] []
  gR : mg "is_rate" = some (.ref fR)
  kR : PySem.W.keepIn K (.ref fR) = true
theorem scPTerm : FnScope ["thing", "c", "k", "q"] ["thing"] (defScope pTerm) := ⟨rfl, rfl, rfl, by decide +kernel, rfl, by decide +kernel, by decide +kernel⟩
theorem rate_at {q : PyData} {q' : Int × Int} (h : pairD q = some q') : rateB q = (decide (q'.2 ≤ 4) && decide ((if q'.1 < 0 then -q'.1 else q'.1) ≤ 4 * q'.2)) := by unfold rateB; rw [h]
theorem rate_no {q : PyData} (h : pairD q = none) : rateB q = false := by unfold rateB; rw [h]
theorem ok_pterm {f : Addr} {fd : FuncData} (F : Fun K "is_term" "is_term" pTerm f fd) (T : JudT mg) (U : PkT P w K mg base) : FnOk P w K mg base CX0 4 f fd ["thing"] spPTerm := by
  refine F.ok scPTerm (fun vs H Q E h => ?_) (fun cdv A outer s H vs Q E hr h => ?_)
  · obtain ⟨x, d, S, rfl, _⟩ := h
    rfl
  · obtain ⟨x, d, S, rfl, hd, q⟩ := h
    have hr2 : Room 2 _ := hr.mono (by decide)
    obtain ⟨t1, mP⟩ := U.mP
    refine ⟨_, pss_cons (ps_if (PW.pt (pw_or (pt_not (pt_val (pe_callB call_isi (by rfl) T.isi (by decide +kernel) (pa_cons (pv 0) (pa_cons (pe_bltn (v := .ty "tuple") (by rfl) T.tup (by decide +kernel) rfl) pa_nil)))))
          (pw_or1 (pt_cmpR op_ne (pe_callB call_len_seq (by rfl) T.len PySem.boot_len (pa_cons (pv 0) pa_nil)) pe_int (nomark _))))) (pss_one (ps_ret pe_bl)) pss_nil)
      (pss_cons (ps_asg (pv 0) (pg_tup (by rfl) (pgs_cons (pg_name (i := 1) scPTerm.nd rfl (.inl rfl)) (pgs_cons (pg_name (i := 2) scPTerm.nd rfl (.inl rfl)) (pgs_cons (pg_name (i := 3) scPTerm.nd rfl (.inl rfl)) pgs_nil)))))
      (pss_cons (ps_if (PW.pt (pw_or (pt_not (pt_val (pe_call U.FF hr2 (by rfl) U.gF U.kF U.bF .nil pass0 (pa_cons (pv 1) pa_nil)))) (pw_or1 (pt_cmpR (op_eqD hr.units) (pv 1) (pe_glob (v := .ref U.nil) (by rfl) U.gNil rfl) (nomark _))))) (pss_one (ps_ret pe_bl)) pss_nil)
      (pss_one (ps_ret (pe_and (pe_call U.FN hr2 (by rfl) U.gN U.kN U.bN .nil pass0 (pa_cons (pv 2) pa_nil)) (pe_and (pe_cmpR op_le (pv 2) (pe_glob (v := .int 3) (by rfl) mP ⟨_, rfl⟩) (nomark _)) (pe_one (pe_call U.FR hr (by rfl) U.gR U.kR U.bR .nil pass0 (pa_cons (pv 3) pa_nil))))))))), ?_⟩
    have fin : ∀ b : Bool, (tmOf d).isSome = b → Q (.bl b) H := fun b e => by rw [← e]; exact q
    refine ⟨_, rfl, _, _, _, _, _, rfl, .ty "tuple", de_ty hd, kit_t d, _, rfl, ?_⟩
    cases hd with
    | non => exact iteT (fin _ rfl)
    | bl b => exact iteT (fin _ rfl)
    | int i => exact iteT (fin _ rfl)
    | str x => exact iteT (fin _ rfl)
    | lst _ _ _ => exact iteT (fin _ rfl)
    | dic _ _ => exact iteT (fin _ rfl)
    | @tup a xs ds hS ha hx =>
      refine iteF ?_
      refine ⟨_, rfl, a, xs, rfl, .inr (SqT.of ha), rfl, _, rfl, ?_⟩
      have hl := hx.len
      refine ite2 (fun c => fin _ ?_) (fun c => ?_)
      · refine congrArg Option.isSome (tmOf_no fun a k b z => ?_)
        have z : ds = [a, .int k, b] := by injection z
        rw [z] at hl
        have hl : xs.length = 3 := hl
        rw [hl] at c
        exact absurd c (by decide)
      · have h2 : xs.length = 3 := by
          by_cases z : xs.length = 3
          · exact z
          · exact absurd (by simp; omega) c
        have l2 : ds.length = 3 := by omega
        obtain ⟨d1, d2, d3, rfl⟩ : ∃ d1 d2 d3, ds = [d1, d2, d3] := by
          match ds, l2 with
          | [d1, d2, d3], _ => exact ⟨d1, d2, d3, rfl⟩
        obtain ⟨x1, x2, x3, rfl⟩ : ∃ x1 x2 x3, xs = [x1, x2, x3] := by
          match xs, h2 with
          | [x1, x2, x3], _ => exact ⟨x1, x2, x3, rfl⟩
        obtain ⟨r1, r2, r3⟩ : DE S H x1 d1 ∧ DE S H x2 d2 ∧ DE S H x3 d3 := by
          cases hx with
          | cons r1 r =>
          cases r with
          | cons r2 r =>
          cases r with
          | cons r3 r => exact ⟨r1, r2, r3⟩
        refine ⟨_, rfl, a, _, rfl, SqT.of ha, rfl, _, _, rfl, _, _, rfl, _, _, rfl, rfl, ?_⟩
        refine ⟨_, rfl, x1, d1, S, rfl, r1, _, rfl, ?_⟩
        cases e1 : pairD d1 with
        | none => exact iteT (fin _ (congrArg Option.isSome (tmOf_no1 e1)))
        | some c' =>
          refine iteF ?_
          obtain ⟨a1, rfl, k1⟩ := de_pair r1 e1
          obtain ⟨_, c0, cg⟩ := pairD_some e1
          refine ⟨_, rfl, _, _, dp_pair k1, U.dNil H, rfl, rfl, _, rfl, ?_⟩
          have nz : PyData.eqv (.tuple [.int c'.1, .int c'.2]) (.tuple [.int 0, .int 1]) = true ↔ c'.1 = 0 := by
            rw [eqv_pair]
            refine ⟨fun h => h.1, fun h => ⟨h, ?_⟩⟩
            rw [h, Int.gcd_zero_left] at cg
            omega
          refine ite2 (fun c1 => fin _ ?_) (fun c1 => ?_)
          · have z := nz.mp c1
            cases d2 with
            | int k =>
              cases e3 : pairD d3 with
              | none => rw [tmOf_no3 e3]; rfl
              | some q' => rw [tmOf_at e1 e3, if_neg (fun y => y.1 z)]; rfl
            | _ => rfl
          · have z : c'.1 ≠ 0 := fun z => c1 (nz.mpr z)
            refine ⟨_, rfl, x2, d2, S, rfl, r2, _, rfl, ?_⟩
            refine ite2 (fun c2 => ?_) (fun c2 => fin _ ?_)
            · obtain ⟨k, rfl⟩ : ∃ k, d2 = .int k := by
                cases d2 with
                | int k => exact ⟨k, rfl⟩
                | _ => cases c2
              have c2 : 0 ≤ k := of_decide_eq_true c2
              cases r2
              refine ⟨_, rfl, k, 3, rfl, rfl, _, rfl, ?_⟩
              refine ite2 (fun c3 => ?_) (fun c3 => fin _ ?_)
              · have c3 : k ≤ 3 := of_decide_eq_true c3
                refine ⟨_, rfl, x3, d3, S, rfl, r3, fin _ ?_⟩
                cases e3 : pairD d3 with
                | none => rw [tmOf_no3 e3, rate_no e3]; rfl
                | some q' =>
                  rw [tmOf_at e1 e3, rate_at e3]
                  by_cases g : q'.2 ≤ 4 ∧ (if q'.1 < 0 then -q'.1 else q'.1) ≤ 4 * q'.2
                  · rw [if_pos ⟨z, ⟨c2, c3⟩, g⟩, decide_eq_true g.1, decide_eq_true g.2]; rfl
                  · rw [if_neg (fun y => g y.2.2)]
                    show false = _
                    by_cases g1 : q'.2 ≤ 4
                    · rw [decide_eq_true g1, decide_eq_false (fun g2 => g ⟨g1, g2⟩)]; rfl
                    · rw [decide_eq_false g1]; rfl
              · have c3 : ¬ k ≤ 3 := fun y => c3 (decide_eq_true y)
                cases e3 : pairD d3 with
                | none => rw [tmOf_no3 e3]; rfl
                | some q' => rw [tmOf_at e1 e3, if_neg (fun y => c3 y.2.1.2)]; rfl
            · have c2 : numB d2 = false := by simpa using c2
              cases d2 with
              | int k =>
                have c2 : ¬ 0 ≤ k := of_decide_eq_false c2
                cases e3 : pairD d3 with
                | none => rw [tmOf_no3 e3]; rfl
                | some q' => rw [tmOf_at e1 e3, if_neg (fun y => c2 y.2.1.1)]; rfl
              | _ => rfl
/-! ### stands_behind -/
def spPBehind : Sp := fun vs H Q _ => ∃ (x y : V) (d e : PyData) (S : Addr → Prop) (p q : Tm), vs = [x, y] ∧ DE S H x d ∧ DE S H y e ∧ tmOf d = some p ∧ tmOf e = some q ∧ ∀ b : Bool, (b = true ↔ ltK q.key p.key) → Q (.bl b) H
theorem scPBehind : FnScope ["term", "other"] ["term", "other"] (defScope pBehind) := ⟨rfl, rfl, rfl, by decide +kernel, rfl, by decide +kernel, by decide +kernel⟩
theorem ok_pbehind {f : Addr} {fd : FuncData} (F : Fun K "stands_behind" "stands_behind" pBehind f fd) (U : PjT P w K mg base) : FnOk P w K mg base CX0 2 f fd ["term", "other"] spPBehind := by
  refine F.ok scPBehind (fun vs H Q E h => ?_) (fun cdv A outer s H vs Q E hr h => ?_)
  · obtain ⟨x, y, d, e, S, p, q, rfl, _⟩ := h
    rfl
  · obtain ⟨x, y, d, e, S, p, q, rfl, hd, he, e1, e2, qq⟩ := h
    refine ⟨_, pss_cons (ps_if (pt_cmpR (op_eqD hr.units) (pe_ix ix_tup (pv 0) pe_int (fun _ _ => rfl)) (pe_ix ix_tup (pv 1) pe_int (fun _ _ => rfl)) (nomark _))
        (pss_one (ps_ret (pe_cmpR op_gt (pe_ix ix_tup (pv 0) pe_int (fun _ _ => rfl)) (pe_ix ix_tup (pv 1) pe_int (fun _ _ => rfl)) (nomark _)))) pss_nil)
      (pss_one (ps_ret (pe_call U.FL hr (by rfl) U.gL U.kL U.bL .nil pass0 (pa_cons (pe_ix ix_tup (pv 1) pe_int (fun _ _ => rfl)) (pa_cons (pe_ix ix_tup (pv 0) pe_int (fun _ _ => rfl)) pa_nil))))), ?_⟩
    obtain ⟨a, a1, a3, rfl, k0, k1, k3⟩ := de_term hd e1
    obtain ⟨b, b1, b3, rfl, l0, l1, l3⟩ := de_term he e2
    obtain ⟨_, _, _, _, m1, _, _, m4, m5⟩ := tmOf_some e1
    obtain ⟨_, _, _, _, n1, _, _, n4, n5⟩ := tmOf_some e2
    obtain ⟨_, m6, m7⟩ := pairD_some m1
    obtain ⟨_, n6, n7⟩ := pairD_some n1
    obtain ⟨m8, m9⟩ := tm_bounds m6 m4 m5
    obtain ⟨n8, n9⟩ := tm_bounds n6 n4 n5
    refine ⟨_, rfl, a, _, 2, .ref a3, rfl, rfl, SqT.of k0, rfl, _, rfl, b, _, 2, .ref b3, rfl, rfl, SqT.of l0, rfl, _, _, dp_pair k3, dp_pair l3, rfl, rfl, _, rfl, ?_⟩
    refine ite2 (fun c => ?_) (fun c => ?_)
    · obtain ⟨c1, c2⟩ := eqv_pair.mp c
      refine ⟨_, rfl, a, _, 1, .int p.2.1, rfl, rfl, SqT.of k0, rfl, _, rfl, b, _, 1, .int q.2.1, rfl, rfl, SqT.of l0, rfl, p.2.1, q.2.1, rfl, rfl, qq _ ?_⟩
      rw [decide_eq_true_iff]
      show q.2.1 < p.2.1 ↔ q.2.2.1 * p.2.2.2 < p.2.2.1 * q.2.2.2 ∨ (q.2.2.1 * p.2.2.2 = p.2.2.1 * q.2.2.2 ∧ q.2.1 < p.2.1)
      rw [c1, c2]
      simp
    · refine ⟨_, rfl, b, _, 2, .ref b3, rfl, rfl, SqT.of l0, rfl, _, rfl, a, _, 2, .ref a3, rfl, rfl, SqT.of k0, rfl, b3, a3, _, _, _, _, rfl, l3, k3, .inl ⟨by omega, by omega⟩, .inl ⟨by omega, by omega⟩, qq _ ?_⟩
      rw [decide_eq_true_iff]
      show q.2.2.1 * p.2.2.2 < p.2.2.1 * q.2.2.2 ↔ q.2.2.1 * p.2.2.2 < p.2.2.1 * q.2.2.2 ∨ (q.2.2.1 * p.2.2.2 = p.2.2.1 * q.2.2.2 ∧ q.2.1 < p.2.1)
      refine ⟨.inl, fun h => h.elim id fun h => ?_⟩
      exact absurd (eqv_pair.mpr (low_eq h.1.symm m7 n7 m6 n6)) c
end
end Nm

/-! The program's check_terms and class Curve. -/
namespace Nm
open PySem PySem.Spec PyProof.Rows L2 LamX
abbrev pCheck : Stmt := topS 16
structure BadT (P : Program) (K : PySem.W.Frag) (mg : Str → Option Value) (C : Addr) where
  st : Stmt
  qual : Str
  fI : Addr
  cc : Addr
  cda : Addr
  txt : Str
  file : Str
  T : XI K st qual C fI cc cda "index" txt file
  pf : PF P file
  sup : mg "super" = none
  gC : mg "BadCurve" = some (.ref C)
  tyC : PySem.W.typeIn K (.ref C) = some (.type "type")
section
variable {P : Program} {w : World} {K : PySem.W.Frag} {mg : Str → Option Value} {base : Heap}
def spCheck (C : Addr) : Sp := fun vs H Q E => ∃ (x : V) (d : PyData) (S : Addr → Prop), vs = [x] ∧ DE S H x d ∧ (dueOf d = none → ∀ H', Same H H' → Q .non H') ∧
  (∀ i, dueOf d = some i → ∀ dd H', Same H H' → H dd = none → H' dd = some (.xd [(PySem.Str.ofString "index", .int i)]) → E (.ref C) (some dd) H')
structure ChkT (P : Program) (w : World) (K : PySem.W.Frag) (mg : Str → Option Value) (base : Heap) extends PkT P w K mg base where
  fT : Addr
  fdT : FuncData
  fB : Addr
  fdB : FuncData
  FT : FnOk P w K mg base CX0 4 fT fdT ["thing"] spPTerm
  FB : FnOk P w K mg base CX0 2 fB fdB ["term", "other"] spPBehind
  bT : Binds K fdT ["thing"] []
  bB : Binds K fdB ["term", "other"] []
  gT : mg "is_term" = some (.ref fT)
  gB : mg "stands_behind" = some (.ref fB)
  kT : PySem.W.keepIn K (.ref fT) = true
  kB : PySem.W.keepIn K (.ref fB) = true
theorem scCheck : FnScope ["terms", "index", "term"] ["terms"] (defScope pCheck) := ⟨rfl, rfl, rfl, by decide +kernel, rfl, by decide +kernel, by decide +kernel⟩
open Classical in
theorem ok_check {f C : Addr} {fd : FuncData} (F : Fun K "check_terms" "check_terms" pCheck f fd) (T : JudT mg) (U : ChkT P w K mg base) (B : BadT P K mg C) : FnOk P w K mg base (L2.CX P w) 5 f fd ["terms"] (spCheck C) := by
  refine F.okX scCheck (fun vs H Q E h => ?_) (fun cdv A outer s H vs Q E hr h => ?_)
  · obtain ⟨x, d, S, rfl, _⟩ := h
    rfl
  · obtain ⟨x, d, S, rfl, hd, q1, q2⟩ := h
    have hr2 : Room 2 _ := hr.mono (by decide)
    obtain ⟨t1, mT⟩ := U.mT
    refine ⟨_, pss_cons (ps_if (PW.pt (pw_or (pt_not (pt_val (pe_callB call_isi (by rfl) T.isi (by decide +kernel) (pa_cons (pv 0) (pa_cons (pe_bltn (v := .ty "tuple") (by rfl) T.tup (by decide +kernel) rfl) pa_nil)))))
          (pw_or1 (pt_cmpR op_gt (pe_callB call_len_seq (by rfl) T.len PySem.boot_len (pa_cons (pv 0) pa_nil)) (pe_glob (v := .int 8) (by rfl) mT ⟨_, rfl⟩) (nomark _)))))
          (pss_one (ps_raise rfl (takes_of rfl rfl rfl rfl) (pmk_newF B.T B.pf B.sup hr B.gC (pa_cons (pe_un un_neg pe_int) pa_nil) B.T.xt.sub B.tyC))) pss_nil)
      (pss_one (ps_for (passes_of rfl) rfl (pi_enumT (by rfl) T.enum (pa_cons (pv 0) pa_nil)) (pg_tup rfl (pgs_cons (pg_name (i := 1) scCheck.nd rfl (.inl rfl)) (pgs_cons (pg_name (i := 2) scCheck.nd rfl (.inl rfl)) pgs_nil)))
        (pss_cons (ps_if (pt_not (pt_val (pe_call U.FT hr (by rfl) U.gT U.kT U.bT .nil pass0 (pa_cons (pv 2) pa_nil)))) (pss_one (ps_raise rfl (takes_of rfl rfl rfl rfl) (pmk_newF B.T B.pf B.sup hr B.gC (pa_cons (pv 1) pa_nil) B.T.xt.sub B.tyC))) pss_nil)
        (pss_one (ps_if (PW.pt (pw_and (pt_cmpR op_gt (pv 1) pe_int (nomark _)) (pw_and1 (pt_not (pt_val (pe_call U.FB hr2 (by rfl) U.gB U.kB U.bB .nil pass0 (pa_cons (pv 2) (pa_cons (pe_ix ix_tup (pv 0) (pe_op op_sub (pv 1) pe_int) (fun _ _ => rfl)) pa_nil))))))))
          (pss_one (ps_raise rfl (takes_of rfl rfl rfl rfl) (pmk_newF B.T B.pf B.sup hr B.gC (pa_cons (pv 1) pa_nil) B.T.xt.sub B.tyC))) pss_nil))))), ?_⟩
    have bad : ∀ (i : Int) (H1 : Hp), dueOf d = some i → Same H H1 → ∃ v, ([.int i] : List V) = [v] ∧ ∀ dd, H1 dd = none → E (.ref C) (some dd) (L2.upd H1 dd (.xd [(PySem.Str.ofString "index", v)])) := fun i H1 e sm =>
      ⟨.int i, rfl, fun dd hdd => q2 i e dd _ (sm.trans (same_upd hdd)) (sm.free hdd) upd_same⟩
    refine ⟨_, rfl, _, _, _, _, _, rfl, .ty "tuple", de_ty hd, kit_t d, _, rfl, ?_⟩
    cases hd with
    | non => exact iteT ⟨1, rfl, bad _ _ rfl fun _ _ h => h⟩
    | bl b => exact iteT ⟨1, rfl, bad _ _ rfl fun _ _ h => h⟩
    | int i => exact iteT ⟨1, rfl, bad _ _ rfl fun _ _ h => h⟩
    | str x => exact iteT ⟨1, rfl, bad _ _ rfl fun _ _ h => h⟩
    | lst _ _ _ => exact iteT ⟨1, rfl, bad _ _ rfl fun _ _ h => h⟩
    | dic _ _ => exact iteT ⟨1, rfl, bad _ _ rfl fun _ _ h => h⟩
    | @tup a xs ds hS ha hx =>
      refine iteF ?_
      have hl := hx.len
      refine ⟨_, rfl, a, xs, rfl, .inr (SqT.of ha), _, 8, rfl, rfl, _, rfl, ?_⟩
      refine ite2 (fun c => ⟨1, rfl, bad _ _ ?_ fun _ _ h => h⟩) (fun c => ?_)
      · have c : (8 : Int) < xs.length := of_decide_eq_true c
        show (if 8 < ds.length then some (-1 : Int) else _) = _
        rw [if_pos (by omega)]
      have c8 : ¬ 8 < ds.length := fun z => c (decide_eq_true (by omega))
      have e0 : dueOf (.tuple ds) = (dueGo none 0 ds).map fun i : Nat => (i : Int) := if_neg c8
      refine ⟨_, rfl, a, xs, rfl, SqT.of ha, ?_⟩
      refine for_enumT (K := K) (a := a) (xs := xs) (fun i σ H' => Same H H' ∧ ∃ (y z : Option V) (prev : Option Tm), σ = [some (.ref a), y, z] ∧ dueGo none 0 ds = dueGo prev i (ds.drop i) ∧
          (i = 0 → prev = none) ∧ (∀ j, i = j + 1 → ∃ d p, ds[j]? = some d ∧ tmOf d = some p ∧ prev = some p))
        ⟨fun _ _ h => h, none, none, none, rfl, rfl, fun _ => rfl, fun j z => by cases z⟩ (fun i σ H' _ h => SqT.of (h.1 _ _ ha)) (fun i x Tt σ H' hi h hT => ?_) (fun σ H' h => ?_)
      · obtain ⟨sm, y, z, prev, rfl, eg, p0, p1⟩ := h
        obtain ⟨dd, hdd, rdd⟩ := hx.at hi
        have s1 : Same H (L2.upd H' Tt (.tup [.int (i : Nat), x])) := sm.trans (same_upd hT)
        have hTt : L2.upd H' Tt (.tup [.int (i : Nat), x]) Tt = some (.tup [.int (i : Nat), x]) := upd_same
        generalize L2.upd H' Tt (.tup [.int (i : Nat), x]) = H1 at *
        refine ⟨Tt, _, rfl, SqT.of hTt, rfl, _, _, rfl, _, _, rfl, rfl, ?_⟩
        rw [dueGo_step hdd] at eg
        refine ⟨_, rfl, x, dd, S, rfl, DE.same s1 rdd, _, rfl, ?_⟩
        cases et : tmOf dd with
        | none =>
          refine iteT ⟨_, rfl, bad _ _ ?_ s1⟩
          rw [e0, eg]
          show Option.map _ (match tmOf dd with | none => some i | some t => _) = _
          rw [et]
          rfl
        | some t =>
          refine iteF ?_
          have step : dueGo prev i (dd :: ds.drop (i + 1)) = if okBehind prev t then dueGo (some t) (i + 1) (ds.drop (i + 1)) else some i := by
            show (match tmOf dd with | none => some i | some t => _) = _
            rw [et]
          rw [step] at eg
          have next : okBehind prev t → Same H H1 ∧ ∃ (y z : Option V) (prev : Option Tm), ([some (.ref a), some (.int (i : Nat)), some x] : L2.St) = [some (.ref a), y, z] ∧ dueGo none 0 ds = dueGo prev (i + 1) (ds.drop (i + 1)) ∧
              (i + 1 = 0 → prev = none) ∧ (∀ j, i + 1 = j + 1 → ∃ d p, ds[j]? = some d ∧ tmOf d = some p ∧ prev = some p) := fun ok => by
            rw [if_pos ok] at eg
            refine ⟨s1, _, _, some t, rfl, eg, fun z => (Nat.succ_ne_zero i z).elim, fun j z => ?_⟩
            obtain rfl : i = j := by omega
            exact ⟨dd, t, hdd, et, rfl⟩
          refine ⟨_, rfl, (i : Nat), 0, rfl, rfl, _, rfl, ?_⟩
          refine ite2 (fun c0 => ?_) (fun c0 => ?_)
          · have c0 : (0 : Int) < (i : Nat) := of_decide_eq_true c0
            obtain ⟨j, rfl⟩ : ∃ j, i = j + 1 := ⟨i - 1, by omega⟩
            obtain ⟨dj, p, hj, ej, rfl⟩ := p1 j rfl
            have hjl := (List.getElem?_eq_some_iff.mp hj).1
            obtain ⟨xj, hxj⟩ : ∃ xj, xs[j]? = some xj := ⟨xs[j]'(by omega), List.getElem?_eq_getElem _⟩
            obtain ⟨dj', hj', rj⟩ := hx.at hxj
            rw [hj] at hj'
            obtain rfl := Option.some.inj hj'
            refine ⟨_, rfl, _, rfl, _, rfl, ((j + 1 : Nat) : Int), 1, rfl, rfl, a, _, _, xj, rfl, rfl, SqT.of (s1 _ _ ha), ?_, ?_⟩
            · have e : ((j + 1 : Nat) : Int) - 1 = (j : Nat) := by omega
              rw [e]
              exact atI_nat hxj
            refine ⟨x, xj, dd, dj, S, t, p, rfl, DE.same s1 rdd, DE.same s1 rj, et, ej, fun b hb => ⟨b, rfl, ?_⟩⟩
            cases b with
            | true => exact iteF (next fun p' e => by obtain rfl := Option.some.inj e; exact hb.mp rfl)
            | false =>
              refine iteT ⟨_, rfl, bad _ _ ?_ s1⟩
              have no : ¬ okBehind (some p) t := fun ok => by
                have := hb.mpr (ok p rfl)
                cases this
              rw [e0, eg, if_neg no]
              rfl
          · have c0 : ¬ (0 : Int) < (i : Nat) := fun z => c0 (decide_eq_true z)
            have i0 : i = 0 := by omega
            exact next fun p e => by
              rw [p0 i0] at e
              cases e
      · obtain ⟨sm, y, z, prev, rfl, eg, _, _⟩ := h
        have hnone : dueOf (.tuple ds) = none := by
          rw [e0, eg, List.drop_eq_nil_of_le (by omega)]
          rfl
        exact q1 hnone _ sm
end
end Nm

/-! C(e, ..) whose __init__ may raise: what is raised is wished for at the caller's slots. -/
namespace Nm
open PySem PySem.Spec PyProof.Rows L2
section
variable {X : Cx} {CX : CXT} {k : Nat} {f C : Addr} {fd : FuncData} {ps : List Str} {sp : Sp} {E : L2.St → XK} {x : Str} {p pos : Pos} {e : Expr} {es : List Expr} {t : TA}
theorem run_makeS {pins : List (Addr × Obj)} {σ : L2.St} {H : Hp} {s : Shared} {Q : VK} {us : List Value} {vs : List V} (M : Mk X.K C f) (F : FnOk X.prog X.w X.K X.mg X.base CX k f fd ps sp) (hr : Room (k + 1) X.A) (hb : Binds X.K fd ps [])
    (hx : PassesAt CX X σ (E σ)) (I : Inv X pins σ H s) (r : Vals vs us)
    (h : ∀ x dx, H x = none → H dx = none → dx ≠ x → sp (.ref x :: vs) (L2.upd (L2.upd H dx (.own x)) x (.ins C dx [])) (fun v H2 => v = .non ∧ Q (.ref x) H2) (E σ)) :
    wpAny (model X.prog X.w) X.A (call (.ref C) us) (EP X pins σ Q) X.xe s := by
  have hq := h (s.heap.objs.size + 1) s.heap.objs.size (I.hok.fresh (Nat.le_succ _)) (I.hok.fresh (Nat.le_refl _)) (Nat.ne_of_lt (Nat.lt_succ_self _))
  have I2 := Inv.made (C := C) I
  have r2 : Vals (V.ref (s.heap.objs.size + 1) :: vs) (Value.ref (s.heap.objs.size + 1) :: us) := .cons rfl r
  have hl : (Value.ref (s.heap.objs.size + 1) :: us).length = ps.length := by
    have e := r2.length
    rw [F.len _ _ _ _ hq] at e
    exact e.symm
  have b := hb _ (Value.ref (s.heap.objs.size + 1) :: us) I2.kIn (by rw [List.append_nil]; exact hl)
  rw [List.append_nil] at b
  refine wpAny_call (make_map (f := f) I.kIn M.makes M.init (beq_iff_eq.mp M.fn) (codeAny_mono (F.run _ X.stack _ _ ⟨Value.ref (s.heap.objs.size + 1) :: us, []⟩ (Value.ref (s.heap.objs.size + 1) :: us) _ _ (E σ) (hr.make C us [])
    (I2.env0.make C us []) b r2 hq) fun r s' hq' => ?_))
  cases r with
  | error e => exact hx pins _ _ e s' I2 hq'
  | ok fl =>
    cases fl with
    | ret u =>
      obtain ⟨v, H', I3, rv, ev, q3⟩ := I2.after hq'
      subst ev
      exact ⟨rv, ⟨V.ref (s.heap.objs.size + 1), H', I3, rfl, q3⟩⟩
    | next => exact False.elim hq'
    | brk => exact False.elim hq'
    | cont => exact False.elim hq'
def tMakeS (C : Addr) (sp : Sp) (E : L2.St → XK) (t : TA) : TE := fun σ H Q => t σ H fun vs H1 => ∀ x dx, H1 x = none → H1 dx = none → dx ≠ x →
  sp (.ref x :: vs) (L2.upd (L2.upd H1 dx (.own x)) x (.ins C dx [])) (fun v H2 => v = .non ∧ Q (.ref x) H2) (E σ)
theorem pe_makeS (M : Mk X.K C f) (F : FnOk X.prog X.w X.K X.mg X.base CX k f fd ps sp) (hr : Room (k + 1) X.A) (hg : Gl X x) (hm : X.mg x = some (.ref C)) (hb : Binds X.K fd ps []) (hx : ∀ σ, PassesAt CX X σ (E σ))
    (ha : PA X (e :: es) t) (hdb : (x == ("__debug__" : Str)) = false := by decide) (he : starEach (e :: es) X.env = (false, eval e X.env) :: starEach es X.env := by rfl) (hpl : (backTo pos (starEach es X.env)).any (·.1) = false := by rfl) :
    PE X (.Call (.Name x p) (e :: es) [] pos) (tMakeS C sp E t) := by
  refine ⟨fun pins s σ H Q I h => ?_⟩
  refine wpAny_Call_Name_kw (ld_glob I hg hm ?_ hdb)
  refine PySem.W.callWith_K (h₀ := X.base) I.ok.mod.kin M.kp (thn (ha.run pos pins s σ H _ I h) fun us s1 ⟨vs, H1, I1, r, q⟩ => ⟨I1.kIn, ?_⟩) he hpl
  exact run_makeS M F hr hb (hx σ) I1 r q
end
end Nm

/-! class Curve: __init__, __eq__. -/
namespace Nm
open PySem PySem.Spec PyProof.Rows L2 LamX
abbrev pInit : Stmt := inClass (topS 15) 0
abbrev pEq : Stmt := inClass (topS 15) 1
section
variable {P : Program} {w : World} {K : PySem.W.Frag} {mg : Str → Option Value} {base : Heap}
structure CvK (K : PySem.W.Frag) (mg : Str → Option Value) (Cc : Addr) : Prop where
  cl : Cls K Cc
  nT : NoAttr K Cc "terms"
  gC : mg "Curve" = some (.ref Cc)
  ca : PySem.W.findIn K (.ref Cc) "__class__" = some (some (.builtin "object.__class__"))
  gs : PySem.W.specialIn K (.builtin "object.__class__") "__get__" = some (some (.builtin "getset_descriptor.__get__"))
  tk : PySem.W.takesIn K (.builtin "object.__class__") = some true
  mr : PySem.W.mroIn K Cc (.type "object") = some true
  kitT : PySem.W.kitOne K (.ref Cc) (.ref Cc) = some true
  kitF : ∀ d : PyData, PySem.W.kitOne K (.type (tyN d)) (.ref Cc) = some false
/-- a made curve: its object at a with the own dict dx, its terms v -/
def CvAt (Cc : Addr) (H : Hp) (a : Addr) (v : V) : Prop := ∃ dx, H a = some (.ins Cc dx [(PySem.Str.ofString "terms", v)])
def spInit (Cc C : Addr) : Sp := fun vs H Q E => ∃ (a dx : Addr) (x : V) (d : PyData) (S : Addr → Prop), vs = [.ref a, x] ∧ H a = some (.ins Cc dx []) ∧ DE S H x d ∧
  (dueOf d = none → ∀ H1, Same H H1 → Q .non (L2.upd H1 a (.ins Cc dx [(PySem.Str.ofString "terms", x)]))) ∧
  (∀ i, dueOf d = some i → ∀ dd H', Same H H' → H dd = none → H' dd = some (.xd [(PySem.Str.ofString "index", .int i)]) → E (.ref C) (some dd) H')
structure IniT (P : Program) (w : World) (K : PySem.W.Frag) (mg : Str → Option Value) (base : Heap) (C : Addr) where
  fK : Addr
  fdK : FuncData
  FK : FnOk P w K mg base (L2.CX P w) 5 fK fdK ["terms"] (spCheck C)
  bK : Binds K fdK ["terms"] []
  gK : mg "check_terms" = some (.ref fK)
  kK : PySem.W.keepIn K (.ref fK) = true
theorem scInit : FnScope ["self", "terms"] ["self", "terms"] (defScope pInit) := ⟨rfl, rfl, rfl, by decide +kernel, rfl, by decide +kernel, by decide +kernel⟩
theorem ok_init {f C Cc : Addr} {fd : FuncData} (F : Fun K "__init__" "Curve.__init__" pInit f fd) (T : CvK K mg Cc) (U : IniT P w K mg base C) : FnOk P w K mg base (L2.CX P w) 6 f fd ["self", "terms"] (spInit Cc C) := by
  refine F.okX scInit (fun vs H Q E h => ?_) (fun cdv A outer s H vs Q E hr h => ?_)
  · obtain ⟨a, dx, x, d, S, rfl, _⟩ := h
    rfl
  · obtain ⟨a, dx, x, d, S, rfl, ha, hd, q1, q2⟩ := h
    refine ⟨_, pss_cons (ps_expr (pe_call U.FK hr (by rfl) U.gK U.kK U.bK .nil (passes_call (takes_of rfl rfl rfl rfl) (E := E) (fun _ _ _ _ h => h)) (pa_cons (pv 1) pa_nil)))
      (pss_one (ps_fld (pv 0) (pv 1) rfl)), ?_⟩
    refine ⟨_, rfl, x, d, S, rfl, hd, fun e H1 sm => ?_, q2⟩
    exact ⟨_, rfl, _, rfl, a, Cc, dx, [], rfl, sm _ _ ha, T.cl, T.nT, by decide, q1 e H1 sm⟩
/-! ### __eq__ -/
def spCEq (K : PySem.W.Frag) (Cc : Addr) : Sp := fun vs H Q _ => ∃ (a : Addr) (y va : V), vs = [.ref a, y] ∧ CvAt Cc H a va ∧
  ((∃ (b : Addr) (vb : V) (d e : PyData), y = .ref b ∧ CvAt Cc H b vb ∧ Dp K H va d ∧ Dp K H vb e ∧ SeqAt.shaped d = true ∧ SeqAt.shaped e = true ∧ Q (.bl (PyData.eqv d e)) H) ∨
   ∃ (d : PyData) (S : Addr → Prop), DE S H y d ∧ Q (.bl false) H)
theorem scCEq : FnScope ["self", "other"] ["self", "other"] (defScope pEq) := ⟨rfl, rfl, rfl, by decide +kernel, rfl, by decide +kernel, by decide +kernel⟩
theorem ok_ceq {f Cc : Addr} {fd : FuncData} {k : Nat} (F : Fun K "__eq__" "Curve.__eq__" pEq f fd) (T : CvK K mg Cc) (J : JudT mg) : FnOk P w K mg base CX0 (k + 1) f fd ["self", "other"] (spCEq K Cc) := by
  refine F.ok scCEq (fun vs H Q E h => ?_) (fun cdv A outer s H vs Q E hr h => ?_)
  · obtain ⟨a, y, va, rfl, _⟩ := h
    rfl
  · obtain ⟨a, y, va, rfl, ⟨dx, ha⟩, h⟩ := h
    refine ⟨_, pss_one (ps_ret (pe_and (pe_callB call_isi (by rfl) J.isi (by decide +kernel) (pa_cons (pv 1) (pa_cons (pe_glob (v := .ref Cc) (by rfl) T.gC rfl) pa_nil)))
      (pe_one (pe_cmpR (op_eqD hr.units) (pe_fld (pv 0) rfl) (pe_fld (pv 1) rfl) (nomark _))))), ?_⟩
    rcases h with ⟨b, vb, d, e, rfl, ⟨dy, hb⟩, r1, r2, s1, s2, q⟩ | ⟨d, S, hd, q⟩
    · refine ⟨_, rfl, .ref b, .ref Cc, .ref Cc, .ref Cc, true, rfl, .own Cc, .base (.ins hb T.cl T.ca T.gs T.tk T.mr), T.kitT, _, rfl, ?_⟩
      refine iteT ?_
      exact ⟨_, rfl, a, Cc, dx, _, va, rfl, ha, T.cl, T.nT, rfl, _, rfl, b, Cc, dy, _, vb, rfl, hb, T.cl, T.nT, rfl, d, e, r1, r2, s1, s2, q⟩
    · refine ⟨_, rfl, y, .ref Cc, _, .ref Cc, false, rfl, .own Cc, de_ty hd, T.kitF d, _, rfl, ?_⟩
      exact iteF q
end
end Nm

/-! a curve == anything, a curve != a curve. -/
namespace Nm
open PySem PySem.Spec PyProof.Rows L2 LamX
section
variable {X : Cx} {pins : List (Addr × Obj)} {σ : L2.St} {H : Hp} {s : Shared}
theorem de_looks {S : Addr → Prop} {y : V} {d : PyData} {u : Value} (I : Inv X pins σ H s) (h : DE S H y d) (r : L2.RelV y u) : PySem.W.Looks (model X.prog X.w) s.heap (typeOf u) (.type (tyN d)) := by
  cases h with
  | non =>
    obtain rfl : u = Value.none := r
    exact fun A Q E s' _ q => wpAny_pure q
  | bl b =>
    obtain rfl : u = Value.bool b := r
    exact fun A Q E s' _ q => wpAny_pure q
  | int i =>
    obtain ⟨t, rfl⟩ := (show ∃ t, u = Value.int i t from r)
    exact fun A Q E s' _ q => wpAny_pure q
  | str x =>
    obtain ⟨t, rfl⟩ := (show ∃ t, u = Value.str x t from r)
    exact fun A Q E s' _ q => wpAny_pure q
  | @lst a xs ds _ ha _ =>
    obtain rfl : u = Value.ref a := r
    obtain ⟨_, its, n, _, e⟩ := (show ObjOk X.prog X.w H s.heap a (.lst xs) from I.hok a _ ha)
    exact fun A Q E s' k q => wpAny_typeOf_ref (k _ _ e) q
  | @tup a xs ds _ ha _ =>
    obtain rfl : u = Value.ref a := r
    obtain ⟨_, its, _, o, e, c, _⟩ := (show ObjOk X.prog X.w H s.heap a (.tup xs) from I.hok a _ ha)
    exact fun A Q E s' k q => wpAny_typeOf_ref (k _ _ e) (by rw [c]; exact q)
  | @dic a _ ha =>
    obtain rfl : u = Value.ref a := r
    obtain ⟨_, _, vs, _, o, es, ep, e, c, _⟩ := (show ObjOk X.prog X.w H s.heap a (.dK []) from I.hok a _ ha)
    exact fun A Q E s' k q => wpAny_typeOf_ref (k _ _ e) (by rw [c.1]; exact q)
/-- the facts of Curve's own == -/
structure CqK (P : Program) (w : World) (K : PySem.W.Frag) (mg : Str → Option Value) (base : Heap) (Cc : Addr) where
  f : Addr
  fd : FuncData
  F : FnOk P w K mg base CX0 1 f fd ["self", "other"] (spCEq K Cc)
  b : Binds K fd ["self", "other"] []
  hs : PySem.W.findIn K (.ref Cc) "__eq__" = some (some (.ref f))
  hf : PySem.W.isFn K (.ref f) = true
  nf : ∀ d : PyData, PySem.W.notFirst K Cc (.type (tyN d)) = true
def rCvEq (K : PySem.W.Frag) (Cc : Addr) : R2 := fun x y H Q => ∃ (a : Addr) (va : V), x = .ref a ∧ CvAt Cc H a va ∧
  ((∃ (b : Addr) (vb : V) (d e : PyData), y = .ref b ∧ CvAt Cc H b vb ∧ Dp K H va d ∧ Dp K H vb e ∧ SeqAt.shaped d = true ∧ SeqAt.shaped e = true ∧ Q (.bl (PyData.eqv d e)) H) ∨
   ∃ (d : PyData) (S : Addr → Prop), DE S H y d ∧ Q (.bl false) H)
theorem call_ceq {Cc : Addr} (U : CqK X.prog X.w X.K X.mg X.base Cc) (hr : Room 1 X.A) {x y : V} {u v : Value} {Q : V → Hp → Prop} (I : Inv X pins σ H s) (rx : L2.RelV x u) (ry : L2.RelV y v) (h : spCEq X.K Cc [x, y] H Q E0) :
    wpAny (model X.prog X.w) X.A (call (.ref U.f) [u, v]) (EP X pins σ Q) X.xe s := by
  have r2 : Vals [x, y] [u, v] := .cons rx (.cons ry .nil)
  exact run_fn (us := [u, v]) (vs := [x, y]) U.F hr U.b .nil pass0 I r2 (by simpa using h)
theorem op_cvEq {Cc : Addr} (U : CqK X.prog X.w X.K X.mg X.base Cc) (hr : Room 1 X.A) : OpR X (compareOp .Eq) (rCvEq X.K Cc) := by
  intro pins s σ H x y v u Q I rx ry h
  obtain ⟨a, va, rfl, ⟨dx, ha⟩, h⟩ := h
  obtain rfl : v = Value.ref a := rx
  obtain ⟨mA, J, _⟩ := ins_get I.hok ha
  obtain ⟨od, J, _⟩ := J.look
  obtain ⟨m, hF⟩ := I.fr
  show wpAny _ _ (richCompare .Eq (.ref a) u) _ _ _
  have go : ∀ (tb : Value), PySem.W.Looks (model X.prog X.w) s.heap (typeOf u) tb → PySem.W.notFirst X.K Cc tb = true → spCEq X.K Cc [.ref a, y] H (fun z H' => (∃ c, z = .bl c) ∧ Q z H') E0 → wpAny (model X.prog X.w) X.A (richCompare .Eq (.ref a) u) (EP X pins σ Q) X.xe s := fun tb hb hn hsp => by
    refine PySem.W.cmp_K (op := .Eq) (tb := tb) hr.units0 hF I.ok.mod.kin J hb hn U.hs U.hf ?_
    refine wpAny_mono (call_ceq U hr I (x := .ref a) rfl ry hsp) (fun z s' hz => ?_) fun _ _ e => e
    obtain ⟨z', H', I', rz, ⟨c, rfl⟩, q⟩ := hz
    obtain rfl : z = Value.bool c := rz
    exact ⟨.bl c, H', I', rfl, q⟩
  rcases h with ⟨b, vb, d, e, rfl, ⟨dy, hb⟩, r1, r2, s1, s2, q⟩ | ⟨d, S, hd, q⟩
  · obtain rfl : u = Value.ref b := ry
    obtain ⟨mB, J', _⟩ := ins_get I.hok hb
    obtain ⟨od', J', _⟩ := J'.look
    exact go (.ref Cc) J'.type (by simp [PySem.W.notFirst]) ⟨a, _, va, rfl, ⟨dx, ha⟩, .inl ⟨b, vb, d, e, rfl, ⟨dy, hb⟩, r1, r2, s1, s2, ⟨_, rfl⟩, q⟩⟩
  · exact go _ (de_looks I hd ry) (U.nf d) ⟨a, _, va, rfl, ⟨dx, ha⟩, .inr ⟨d, S, hd, ⟨_, rfl⟩, q⟩⟩
/-- the facts of Curve's own != -/
structure CnK (K : PySem.W.Frag) (Cc f : Addr) : Prop where
  cls : ∃ (nm q : Str) (N : Addr) (bs : List Value) (hdct : Bool) (sn : List Str) (sub : List Value) (ab : Bool) (col : Option Bool) (dd : Option Addr) (k0 k1 k2 k3 k5 : Option Value) (newId : String) (oN : Obj) (es : Array DictEntry) (ep : Nat),
    K.lookup Cc = some (excClassObj nm q Cc N bs [.type "object"] hdct sn sub ab col dd k0 k1 k2 k3 k5 newId) ∧ K.lookup N = some oN ∧ oN.data = .dict es ep ∧ StrKeys es ∧ nsFind es "__eq__" = some (.ref f) ∧ nsFind es "__ne__" = none
  fn : ∃ of : Obj, K.lookup f = some of ∧ of.cls = .type "function"
def rCvNe (K : PySem.W.Frag) (Cc : Addr) : R2 := fun x y H Q => ∃ (a b : Addr) (va vb : V) (d e : PyData), x = .ref a ∧ y = .ref b ∧ CvAt Cc H a va ∧ CvAt Cc H b vb ∧ Dp K H va d ∧ Dp K H vb e ∧ SeqAt.shaped d = true ∧ SeqAt.shaped e = true ∧ Q (.bl (!PyData.eqv d e)) H
theorem op_cvNe {Cc : Addr} (U : CqK X.prog X.w X.K X.mg X.base Cc) (N : CnK X.K Cc U.f) (hr : Room 2 X.A) : OpR X (compareOp .NotEq) (rCvNe X.K Cc) := by
  intro pins s σ H x y v u Q I rx ry h
  obtain ⟨a, b, va, vb, d, e, rfl, rfl, ⟨dx, ha⟩, ⟨dy, hb⟩, r1, r2, s1, s2, q⟩ := h
  obtain rfl : v = Value.ref a := rx
  obtain rfl : u = Value.ref b := ry
  obtain ⟨mA, ⟨J, _⟩, _⟩ := ins_get I.hok ha
  obtain ⟨mB, ⟨J', _⟩, _⟩ := ins_get I.hok hb
  obtain ⟨nm, qn, Na, bs, hdct, sn, sub, ab, col, dd, k0, k1, k2, k3, k5, newId, oN, es, ep, hC, hN, hdat, hsk, hq1, hq2⟩ := N.cls
  obtain ⟨of, hf, hfc⟩ := N.fn
  have K := I.kIn
  have XX : s.heap.OwnEqNoNe a Cc U.f "object" [.type "object"] := ⟨_, of, nm, qn, Na, bs, hdct, sn, sub, ab, col, dd, k0, k1, k2, k3, k5, newId, _, _, J, rfl, K _ _ hC, ⟨oN, es, ep, K _ _ hN, hdat, hsk, fun _ => rfl⟩, hq1, K _ _ hf, hfc, F.cmp_object.mro, F.cmp_object.eq.lookup, hq2⟩
  have hsp : spCEq X.K Cc [.ref a, .ref b] H (fun z H' => z = .bl (PyData.eqv d e) ∧ H' = H) E0 := ⟨a, .ref b, va, rfl, ⟨dx, ha⟩, .inl ⟨b, vb, d, e, rfl, ⟨dy, hb⟩, r1, r2, s1, s2, rfl, rfl⟩⟩
  have e0 : Env0 X.prog X.w X.K X.mg X.base X.A.in1 X.stack s H := by
    have e := I.env0
    exact ⟨e.frames, e.mod, e.bs, e.bsz, e.funs, e.frf, e.hok, e.bare⟩
  have v2 : Vals [V.ref a, V.ref b] [Value.ref a, Value.ref b] := .cons rfl (.cons rfl .nil)
  have hl := U.F.len _ _ _ _ hsp
  obtain ⟨hp, g, dr, t, os⟩ := s
  refine compareOp_ne_ownEq F.cmp_object XX J' rfl (by have := hr.units; omega) ?_
  refine wpAny_call (codeAny_mono (U.F.run X.A.in1 X.stack _ H ⟨[.ref a, .ref b], []⟩ [.ref a, .ref b] [.ref a, .ref b] _ E0 hr.in1 e0 (by
    have := U.b ⟨hp, g, dr, t, os⟩ [.ref a, .ref b] I.kIn (by simpa using hl)
    simpa using this) v2 hsp) fun r s' hq => ?_)
  cases r with
  | error e => exact pass0 pins σ H _ e s' I hq
  | ok fl =>
    cases fl with
    | ret w =>
      obtain ⟨z, H', I', rz, rfl, rfl⟩ := I.after hq
      obtain rfl : w = Value.bool (PyData.eqv d e) := rz
      exact ⟨_, rfl, .bl _, _, I', rfl, q⟩
    | next => exact False.elim hq
    | brk => exact False.elim hq
    | cont => exact False.elim hq
end
end Nm

/-! _law_told: what Curve answers. -/
namespace Nm
open PySem PySem.Spec PyProof.Rows L2 LamX
abbrev sTold : Stmt := topS 39
section
variable {P : Program} {w : World} {K : PySem.W.Frag} {mg : Str → Option Value} {base : Heap}
structure TldT (P : Program) (w : World) (K : PySem.W.Frag) (mg : Str → Option Value) (base : Heap) (Cc C : Addr) where
  fI : Addr
  fdI : FuncData
  CE : Addr
  FI : FnOk P w K mg base (L2.CX P w) 6 fI fdI ["self", "terms"] (spInit Cc C)
  bI : Binds K fdI ["self", "terms"] []
  mkI : Mk K Cc fI
  cv : CvK K mg Cc
  bad : BadT P K mg C
  gE : mg "CurveError" = some (.ref CE)
  ex : PySem.W.exmOne K (.ref C) (.ref C) = some true
  k1 : PySem.W.kitOne K (.ref C) (.ref CE) = some true
  k2 : PySem.W.kitOne K (.ref C) (.type "ValueError") = some true
  val : mg "ValueError" = none
  noI : PySem.W.findIn K (.ref C) "index" = some none
def spTold : Sp := fun vs H Q _ => ∃ (x : V) (d : PyData) (S : Addr → Prop), vs = [x] ∧ DE S H x d ∧ (∀ i, dueOf d = some i → ∀ H', Same H H' → Q (.int i) H') ∧
  (dueOf d = none → ∀ p H', Same H H' → H p = none → H' p = some (.tup [.str "told", x]) → Q (.ref p) H')
theorem scTold : FnScope ["_law_terms_here", "_law_told_here", "e"] ["_law_terms_here"] (defScope sTold) := ⟨rfl, rfl, rfl, by decide +kernel, rfl, by decide +kernel, by decide +kernel⟩
theorem ok_told {f Cc C : Addr} {fd : FuncData} (F : Fun K "_law_told" "_law_told" sTold f fd) (J : JudT mg) (T : TldT P w K mg base Cc C) : FnOk P w K mg base CX0 8 f fd ["_law_terms_here"] spTold := by
  refine F.ok scTold (fun vs H Q E h => ?_) (fun cdv A outer s H vs Q E hr h => ?_)
  · obtain ⟨x, d, S, rfl, _⟩ := h
    rfl
  · obtain ⟨x, d, S, rfl, hd, q1, q2⟩ := h
    have xf : XfC K C := ⟨T.bad.T.xt.ga, T.bad.T.xt.gt, T.bad.T.xt.sub, T.bad.T.xt.hd⟩
    refine ⟨_, pss_cons (ps_set (i := 1) scTold.nd rfl (.inl rfl) pe_str)
      (pss_cons (ps_try_as (i := 2) (tb := fun W => tAsg (tTup (tCons (tC (.str "told")) (tCons (tFld K (tMakeS Cc (spInit Cc C) (WE W) (tCons (tVar 0) tNil)) "terms") tNil))) (gName 1)) (Wout := fun _ _ _ _ => False) rfl rfl scTold.nd rfl rfl ⟨rfl, by decide, .inl T.bad.gC⟩ L2.takes0
          (fun W pn xe tk _ => pss_one (ps_set (i := 1) scTold.nd rfl (.inl rfl) (by exact (pe_tup (pa_cons pe_str (pa_cons (pe_fld (pe_makeS T.mkI T.FI hr (by rfl) T.cv.gC T.bI (fun σ => passAt tk σ) (by exact (pa_cons (pv 0) pa_nil))) rfl) pa_nil))))))
          (fun a oe cls d pn hz hf => pss_one (ps_set (i := 1) scTold.nd rfl (.inl rfl) (by exact (pe_ifExp (PW.pt (pw_and (pt_val (pe_callB (call_isD hz hf) (by rfl) J.isi (by decide +kernel) (pa_cons (pv 2) (pa_cons (pe_glob (v := .ref T.CE) (by rfl) T.gE rfl) pa_nil))))
              (pw_and1 (pt_val (pe_callB (call_isD hz hf) (by rfl) J.isi (by decide +kernel) (pa_cons (pv 2) (pa_cons (pe_bltn (v := .ty "ValueError") (by rfl) T.val (by decide +kernel) rfl) pa_nil)))))))
              (pe_xf xf T.noI hz hf (pv 2)) pe_str)))))
      (pss_one (ps_ret (pv 1)))), ?_⟩
    refine ⟨_, rfl, fun a dx na ndx nda => ?_⟩
    obtain ⟨H1, eH1⟩ : ∃ H1, H1 = L2.upd (L2.upd H dx (.own a)) a (.ins Cc dx []) := ⟨_, rfl⟩
    have s1 : Same H H1 := fun c o h => by
      rw [eH1, upd_ne (ne_of_none h na), upd_ne (ne_of_none h ndx)]
      exact h
    have ha1 : H1 a = some (.ins Cc dx []) := by rw [eH1, upd_same]
    rw [← eH1]
    refine ⟨a, dx, x, d, S, rfl, ha1, DE.same s1 hd, fun e H2 s2 => ⟨rfl, ?_⟩, fun i e dd H2 s2 hdd hd2 => ?_⟩
    · refine ⟨a, Cc, dx, _, x, rfl, upd_same, T.cv.cl, T.cv.nT, rfl, (by show 2 ≤ sizeLine; decide), fun p hp => ?_⟩
      have s3 : Same H (L2.upd H2 a (.ins Cc dx [(PySem.Str.ofString "terms", x)])) := fun c o h => by
        rw [upd_ne (ne_of_none h na)]
        exact s2 _ _ (s1 _ _ h)
      exact ⟨_, rfl, q2 e p _ (s3.trans (same_upd hp)) (s3.free hp) upd_same⟩
    · have s12 := s1.trans s2
      refine ⟨true, T.ex, fun _ a' ha' => ?_, fun q => Bool.noConfusion q⟩
      refine ⟨_, rfl, C, dd, .ref T.CE, .ref T.CE, true, _, rfl, rfl, rfl, T.bad.T.xt, .own T.CE, hd2, T.k1, _, rfl, ?_⟩
      refine iteT ?_
      refine ⟨_, rfl, C, dd, .ty "ValueError", _, true, _, rfl, rfl, rfl, T.bad.T.xt, .ty "ValueError", hd2, T.k2, _, rfl, ?_⟩
      refine iteT ?_
      refine ⟨_, rfl, rfl, rfl, dd, _, .int i, rfl, hd2, rfl, ?_⟩
      exact ⟨_, rfl, q1 i e _ s12⟩
end
end Nm

/-! _law_odd: what is put in. -/
namespace Nm
open PySem PySem.Spec PyProof.Rows L2 LamX
abbrev sOdd : Stmt := topS 40
/-! ### written data -/
def tLit (d : PyData) : TE := fun _ H Q => ∀ v H', Same H H' → DE (fun a => H a = none) H' v d → Q v H'
def tLits (ds : List PyData) : TA := fun _ H Q => ∀ vs H', Same H H' → DEs (fun a => H a = none) H' vs ds → Q vs H'
section
variable {X : Cx} {e : Expr} {es : List Expr} {pos : Pos} {d : PyData} {ds : List PyData}
theorem pe_imp {t t' : TE} (h : PE X e t) (i : ∀ σ H Q, t' σ H Q → t σ H Q) : PE X e t' := ⟨fun pins s σ H Q I q => h.run pins s σ H Q I (i σ H Q q)⟩
theorem pa_imp {t t' : TA} (h : PA X es t) (i : ∀ σ H Q, t' σ H Q → t σ H Q) : PA X es t' := ⟨fun pos pins s σ H Q I q => h.run pos pins s σ H Q I (i σ H Q q)⟩
theorem same_rfl {H : Hp} : Same H H := fun _ _ h => h
theorem lit_int {i : Int} {j : Nat} : PE X (.Constant (.int i) j pos) (tLit (.int i)) := pe_imp pe_int fun σ H Q q => q _ H same_rfl (.int i)
theorem lit_neg {i : Int} {j : Nat} {p : Pos} : PE X (.UnaryOp .USub (.Constant (.int i) j p) pos) (tLit (.int (-i))) := pe_imp (pe_un un_neg pe_int) fun σ H Q q => ⟨i, rfl, q _ H same_rfl (.int (-i))⟩
theorem lit_str {x : Str} {j : Nat} : PE X (.Constant (.str x) j pos) (tLit (.str x)) := pe_imp pe_str fun σ H Q q => q _ H same_rfl (.str x)
theorem lit_bl {b : Bool} {j : Nat} : PE X (.Constant (.bool b) j pos) (tLit (.bool b)) := pe_imp pe_bl fun σ H Q q => q _ H same_rfl (.bl b)
theorem lit_non {j : Nat} : PE X (.Constant .none j pos) (tLit .none) := pe_imp pe_non fun σ H Q q => q _ H same_rfl .non
theorem lits_nil : PA X [] (tLits []) := pa_imp pa_nil fun σ H Q q => q [] H same_rfl .nil
theorem lits_cons (h : PE X e (tLit d)) (hs : PA X es (tLits ds)) (he : starEach (e :: es) X.env = (false, eval e X.env) :: starEach es X.env := by rfl) : PA X (e :: es) (tLits (d :: ds)) :=
  pa_imp (pa_cons h hs he) fun σ H Q q v H1 s1 r1 vs H2 s2 r2 => q (v :: vs) H2 (s1.trans s2) (.cons (DE.keep (fun a o sa _ h => ⟨sa, s2 _ _ h⟩) r1) (DEs.keep (fun a o sa _ h => ⟨s1.free sa, h⟩) r2))
theorem lit_tup {k : Nat} (hs : PA X es (tLits ds)) (hl : ds.length ≤ 1000) : PE X (.Tuple es k pos) (tLit (.tuple ds)) :=
  pe_imp (pe_tup hs) fun σ H Q q vs H1 s1 r => ⟨by rw [r.len]; exact Nat.le_trans hl (by decide), fun p hp => q _ _ (s1.trans (same_upd hp)) (.tup (s1.free hp) upd_same (DEs.keep (fun a o sa _ h => ⟨sa, same_upd hp _ _ h⟩) r))⟩
theorem lit_lst (hs : PA X es (tLits ds)) (hl : ds.length ≤ 1000) : PE X (.List es pos) (tLit (.list ds)) :=
  pe_imp (pe_lst hs) fun σ H Q q vs H1 s1 r => ⟨by rw [r.len]; exact Nat.le_trans hl (by decide), fun p hp => q _ _ (s1.trans (same_upd hp)) (.lst (s1.free hp) upd_same (DEs.keep (fun a o sa _ h => ⟨sa, same_upd hp _ _ h⟩) r))⟩
theorem lit_dic : PE X (.Dict [] [] pos) (tLit (.dict [])) := pe_imp pe_dnewK fun σ H Q q p hp => q _ _ (same_upd hp) (.dic hp upd_same)
end
section
variable {X : Cx} {pos p1 p2 : Pos}
theorem lit_pow {i j : Int} {a b : Nat} (hc : 0 ≤ j ∧ j ≤ 1000000 ∧ i.natAbs < 2 ^ 64) : PE X (.BinOp (.Constant (.int i) a p1) .Pow (.Constant (.int j) b p2) pos) (tLit (.int (i ^ j.toNat))) :=
  pe_imp (pe_op op_pow pe_int pe_int) fun σ H Q q => ⟨i, j, rfl, rfl, hc, q _ H same_rfl (.int _)⟩
end
theorem lit_deep : ∀ (σ : L2.St) (H : Hp) (Q : VK), tLit (deepD 11) σ H Q → tCall spDeep [] E0 tNil σ H Q := fun σ H Q q => ⟨rfl, fun v H' sm r => q v H' sm (DS.toE r)⟩
def odd1 : List PyData := [.none, .bool true, .int 0, .int (-1), .int 4, .str "1", .tuple [], .list [], .dict [], .tuple [.int (1), .int (1)], .tuple [.int (0), .int (1)], .tuple [.int (2), .int (2)], .tuple [.int (1), .int (-1)], .tuple [.int (1), .int (0)], .tuple [.int (9), .int (2)], .tuple [.int (1), .int (5)], .tuple [.int (-9), .int (2)]]
def odd2 : List PyData := [.tuple [.int (4), .int (1)], .tuple [.int 1], .list [.int 1, .int 1], .tuple [.bool true, .int 1], .tuple [.int 1, .int 2, .int 3], deepD 11, .tuple [.tuple [.int (1), .int (1)], .int 0, .tuple [.int (0), .int (1)]], .int (10 ^ (29 : Int).toNat), .tuple [.int (-4), .int (1)]]
def wdD : PyData → Nat | .tuple ds => ds.length | _ => 0
theorem odd_wd : ∀ d ∈ odd1 ++ odd2, wdD d ≤ 10 := by decide +kernel
theorem odd_bd : ∀ d ∈ odd1 ++ odd2, bdD d = true := by decide +kernel
section
variable {P : Program} {w : World} {K : PySem.W.Frag} {mg : Str → Option Value} {base : Heap}
theorem DEs.app {S : Addr → Prop} {H : Hp} : ∀ {xs ys : List V} {ds es : List PyData}, DEs S H xs ds → DEs S H ys es → DEs S H (xs ++ ys) (ds ++ es)
  | _, _, _, _, .nil, h => h
  | _, _, _, _, .cons x r, h => .cons x (DEs.app r h)
structure OddT (P : Program) (w : World) (K : PySem.W.Frag) (mg : Str → Option Value) (base : Heap) extends NumT P w K mg base where
  fD : Addr
  fdD : FuncData
  FD : FnOk P w K mg base CX0 1 fD fdD [] spDeep
  bD : Binds K fdD [] []
  gD : mg "_law_deep" = some (.ref fD)
  kD : PySem.W.keepIn K (.ref fD) = true
def spOdd : Sp := fun vs H Q _ => ∃ (b g : Addr) (n : Nat), vs = [.ref b] ∧ BagAt H b g n ∧ n < 999999999990 ∧
  ∀ (v : V) (d : PyData) (H' : Hp), DE (fun a => H a = none) H' v d → bdD d = true → wdD d ≤ 10 → KeptB b g H H' → BagAt H' b g (n + 1) → Q v H'
theorem scOdd : FnScope ["_law_bag_here", "_law_odd_here"] ["_law_bag_here"] (defScope sOdd) := ⟨rfl, rfl, rfl, by decide +kernel, rfl, by decide +kernel, by decide +kernel⟩
theorem ok_odd {f : Addr} {fd : FuncData} (F : Fun K "_law_odd" "_law_odd" sOdd f fd) (T : OddT P w K mg base) : FnOk P w K mg base CX0 3 f fd ["_law_bag_here"] spOdd := by
  refine F.ok scOdd (fun vs H Q E h => ?_) (fun cdv A outer s H vs Q E hr h => ?_)
  · obtain ⟨b, g, n, rfl, _⟩ := h
    rfl
  · obtain ⟨b, g, n, rfl, B, hn, q⟩ := h
    have hr1 : Room 1 _ := hr.mono (by decide)
    refine ⟨_, pss_cons (ps_set (i := 1) scOdd.nd rfl (.inl rfl) (lit_lst (lits_cons lit_non (lits_cons lit_bl (lits_cons lit_int (lits_cons lit_neg (lits_cons lit_int (lits_cons lit_str (lits_cons (lit_tup lits_nil (by decide)) (lits_cons (lit_lst lits_nil (by decide)) (lits_cons lit_dic (lits_cons (lit_tup (lits_cons lit_int (lits_cons lit_int lits_nil)) (by decide)) (lits_cons (lit_tup (lits_cons lit_int (lits_cons lit_int lits_nil)) (by decide)) (lits_cons (lit_tup (lits_cons lit_int (lits_cons lit_int lits_nil)) (by decide)) (lits_cons (lit_tup (lits_cons lit_int (lits_cons lit_neg lits_nil)) (by decide)) (lits_cons (lit_tup (lits_cons lit_int (lits_cons lit_int lits_nil)) (by decide)) (lits_cons (lit_tup (lits_cons lit_int (lits_cons lit_int lits_nil)) (by decide)) (lits_cons (lit_tup (lits_cons lit_int (lits_cons lit_int lits_nil)) (by decide)) (lits_cons (lit_tup (lits_cons lit_neg (lits_cons lit_int lits_nil)) (by decide)) lits_nil))))))))))))))))) (by decide)))
      (pss_cons (ps_set (i := 1) scOdd.nd rfl (.inl rfl) (pe_op op_cat (pv 1) (lit_lst (lits_cons (lit_tup (lits_cons lit_int (lits_cons lit_int lits_nil)) (by decide)) (lits_cons (lit_tup (lits_cons lit_int lits_nil) (by decide)) (lits_cons (lit_lst (lits_cons lit_int (lits_cons lit_int lits_nil)) (by decide)) (lits_cons (lit_tup (lits_cons lit_bl (lits_cons lit_int lits_nil)) (by decide)) (lits_cons (lit_tup (lits_cons lit_int (lits_cons lit_int (lits_cons lit_int lits_nil))) (by decide)) (lits_cons (pe_imp (pe_call0 T.FD hr1 (by rfl) T.gD T.kD T.bD .nil pass0) lit_deep) (lits_cons (lit_tup (lits_cons (lit_tup (lits_cons lit_int (lits_cons lit_int lits_nil)) (by decide)) (lits_cons lit_int (lits_cons (lit_tup (lits_cons lit_int (lits_cons lit_int lits_nil)) (by decide)) lits_nil))) (by decide)) (lits_cons (lit_pow ⟨by decide, by decide, by decide⟩) (lits_cons (lit_tup (lits_cons lit_neg (lits_cons lit_int lits_nil)) (by decide)) lits_nil))))))))) (by decide))))
      (pss_one (ps_ret (pe_call T.FS hr (by rfl) T.gS T.kS T.bS .nil pass0 (pa_cons (pv 0) (pa_cons (pv 1) pa_nil)))))), ?_⟩
    intro v1 H1 s1 r1
    have r1 : DE (fun a => H a = none) H1 v1 (.list odd1) := r1
    cases r1 with
    | @lst l1 xs _ hl1 h1 x1 =>
    refine ⟨_, rfl, fun v2 H2 s2 r2 => ?_⟩
    have r2 : DE (fun a => H1 a = none) H2 v2 (.list odd2) := r2
    cases r2 with
    | @lst l2 zs _ hl2 h2 x2 =>
    have e1 : xs.length = 17 := x1.len
    have e2 : zs.length = 9 := x2.len
    refine ⟨l1, l2, xs, zs, rfl, rfl, s2 _ _ h1, h2, ?_, fun p hp => ?_⟩
    · rw [e1, e2]
      decide
    have s12 := s1.trans s2
    have s3 : Same H2 (L2.upd H2 p (.lst (xs ++ zs))) := same_upd hp
    have sH := s12.trans s3
    have fp : H p = none := s12.free hp
    obtain ⟨o1, o2⟩ := B.off (H2 := H) fp
    have all : DEs (fun a => H a = none) (L2.upd H2 p (.lst (xs ++ zs))) (xs ++ zs) (odd1 ++ odd2) :=
      DEs.app (DEs.keep (fun a o sa _ h => ⟨sa, s3 _ _ (s2 _ _ h)⟩) x1) (DEs.keep (fun a o sa _ h => ⟨s1.free sa, s3 _ _ h⟩) x2)
    have hp3 : L2.upd H2 p (.lst (xs ++ zs)) p = some (.lst (xs ++ zs)) := upd_same
    generalize L2.upd H2 p (.lst (xs ++ zs)) = H3 at *
    refine ⟨_, rfl, _, rfl, b, g, p, n, xs ++ zs, rfl, B.same sH, by omega, hp3, o1, o2, by rw [List.length_append]; omega, by rw [List.length_append]; omega, fun j v H4 hv B4 K4 => ?_⟩
    obtain ⟨d, hd, rd⟩ := all.at hv
    refine q v d H4 (DE.keep (fun a o sa _ h => ?_) rd) (odd_bd d (List.mem_of_getElem? hd)) (odd_wd d (List.mem_of_getElem? hd)) ((KeptB.of sH).trans K4) B4
    obtain ⟨n1, n2⟩ := B.off (H2 := H) sa
    exact ⟨sa, K4 a o h n1 n2⟩
end
end Nm

/-! t[::-1], t a tuple. -/
namespace Nm
open PySem PySem.Spec PyProof.Rows L2
theorem fm_congr {α β : Type} {f g : α → Option β} : ∀ {l : List α}, (∀ x ∈ l, f x = g x) → l.filterMap f = l.filterMap g
  | [], _ => rfl
  | a :: l, h => by rw [List.filterMap_cons, List.filterMap_cons, h a List.mem_cons_self, fm_congr fun x hx => h x (List.mem_cons_of_mem _ hx)]
section
variable {prog : Program} {w : World} {A : Around} {E : Value → Shared → Prop} {s : Shared}
theorem getItem_tuple_rev {t sl : Addr} {items : Array Value} {vl vu vs : Value} {Q : Value → Shared → Prop} (ht : IsTup s.heap t items) (hs : s.heap.IsSliceOf sl vl vu vs) (pl : IsPart vl none) (pu : IsPart vu none) (ps : IsPart vs (some (-1)))
    (h : Q (.ref s.heap.objs.size) { s with heap := s.heap.push { cls := .type "tuple", data := .seq items.toList.reverse.toArray } }) (hsz : items.size ≤ sizeLine) : wpAny (model prog w) A (getItem (.ref t) (.ref sl)) Q E s := by
  obtain ⟨os, hos, hcs, hds⟩ := id hs
  have hTs : s.TypeIs (.ref sl) "slice" := ⟨os, hos, hcs⟩
  have htake : sizeOk (.seq items.toList.reverse.toArray) := by
    show items.toList.reverse.toArray.size ≤ sizeLine
    rw [List.size_toArray, List.length_reverse, Array.length_toList]
    exact hsz
  unfold getItem
  try with_reducible refine wpAny_holding ?_
  first | refine wpAny_bind (wpAny_pure ?_) | skip
  refine wpAny_bind (wpAny_sequenceKey ht.typeIs (by decide) ?_)
  refine wpAny_bind (wpAny_callSpecial?_slot (name := Str.ofString "__getitem__") ht.typeIs PyProof.Rows.slot_tuple_getitem
    (wpAny_call_entry PyProof.Rows.slot_tuple_getitem ht.typeIs entry_tuple_getitem ?_ (args_tuple_getitem _ _)))
  show wpAny _ _ (Builtin.Tuple.tupleItemsOf (.ref t) >>= _) _ _ s
  refine wpAny_bind (tupleItemsOf_ ht ?_)
  refine wpAny_bind (wpAny_typeOf hTs ?_)
  rw [if_pos (by decide)]
  refine wpAny_bind ?_
  unfold Builtin.Slice.sliceApplied Builtin.Slice.sliceFields
  refine wpAny_bind (wpAny_bind (wpAny_field hos hds (x := vl) rfl (wpAny_bind (wpAny_field hos hds (x := vu) rfl (wpAny_bind (wpAny_field hos hds (x := vs) rfl (wpAny_pure ?_)))))))
  refine wpAny_bind (HT.slicePart_ ps ?_)
  show wpAny _ _ (if ((-1 : Int) == 0) = true then _ else _) _ _ s
  rw [if_neg (by decide)]
  refine wpAny_bind (HT.slicePart_ pl (wpAny_bind (HT.slicePart_ pu (wpAny_bind (wpAny_pure ?_)))))
  have adj : Builtin.Slice.sliceAdjust none none (-1) (items.size : Int) = ((items.size : Int) - 1, -1) := by
    unfold Builtin.Slice.sliceAdjust
    simp
  have plc : Builtin.Slice.slicePlaces ((items.size : Int) - 1) (-1) (-1) = items.size := by
    unfold Builtin.Slice.slicePlaces
    simp only [show ¬ ((-1 : Int) > 0) from by decide, if_false, show (- -1 : Int) = 1 from by decide, Int.ediv_one]
    split <;> omega
  show wpAny _ _ (match Builtin.Slice.sliceAdjust none none (-1) (items.size : Int) with | (lo, hi) => pure (lo, (-1 : Int), Builtin.Slice.slicePlaces lo hi (-1))) _ _ s
  rw [adj]
  show wpAny _ _ (pure ((items.size : Int) - 1, (-1 : Int), Builtin.Slice.slicePlaces ((items.size : Int) - 1) (-1) (-1))) _ _ s
  rw [plc]
  refine wpAny_pure ?_
  show wpAny _ _ (if (((items.size : Int) - 1) == 0 && (-1 : Int) == 1 && items.size == items.size) = true then _ else _) _ _ s
  have hno : ¬ ((((items.size : Int) - 1) == 0 && (-1 : Int) == 1 && items.size == items.size) = true) := by simp
  have pick : ((List.range items.size).filterMap fun (m : Nat) => items[((items.size : Int) - 1 + (m : Int) * (-1)).toNat]?).toArray = items.toList.reverse.toArray := by
    have e1 : ((List.range items.size).filterMap fun (m : Nat) => items[((items.size : Int) - 1 + (m : Int) * (-1)).toNat]?) = (List.range items.size).filterMap ((items[·]?) ∘ fun k => items.size - 1 - k) :=
      fm_congr fun m hm => by
        have hm := List.mem_range.mp hm
        have : ((items.size : Int) - 1 + (m : Int) * (-1)).toNat = items.size - 1 - m := by omega
        rw [this]
        rfl
    rw [e1, ← List.filterMap_map, PySem.W.krv_range, List.filterMap_reverse, PySem.W.krv_all]
  rw [if_neg hno, pick]
  first
    | exact wpAny_bind (m := Builtin.Tuple.tupleExact _) (wpAny_newObj_type (wpAny_pure ⟨_, rfl, wpAny_pure h⟩) htake)
    | exact wpAny_bind (m := Builtin.Tuple.tupleExact _) (wpAny_newObj_type (wpAny_bind (wpAny_pure (wpAny_pure ⟨_, rfl, wpAny_pure h⟩))) htake)
    | exact wpAny_bind (wpAny_bind (m := Builtin.Tuple.tupleExact _) (wpAny_newObj_type (wpAny_pure (wpAny_pure ⟨_, rfl, wpAny_pure h⟩)) htake))
    | exact wpAny_bind (wpAny_bind (m := Builtin.Tuple.tupleExact _) (wpAny_newObj_type (wpAny_pure ⟨_, rfl, wpAny_pure h⟩) htake))
end
def tRevT (K : PySem.W.Frag) (te : TE) : TE := fun σ H Q => te σ H fun x H1 => ∃ a xs, x = .ref a ∧ SqT K H1 a xs ∧ ∀ p, H1 p = none → Q (.ref p) (L2.upd H1 p (.tup xs.reverse))
theorem pe_revT {X : Cx} {e : Expr} {te : TE} {k : Nat} {p1 p2 p3 pos : Pos} (he : PE X e te) : PE X (.Subscript e (.Slice none none (some (.UnaryOp .USub (.Constant (.int 1) k p1) p2)) p3) pos) (tRevT X.K te) := by
  refine ⟨fun pins s σ H Q I h => ?_⟩
  refine Subscript_ (thn (he.run pins s σ H _ I h) fun v s1 ⟨x, H1, I1, r1, q1⟩ => ?_)
  obtain ⟨a, xs, ex, hx, q⟩ := q1
  subst ex
  cases r1
  have hst : PO X (some (.UnaryOp .USub (.Constant (.int 1) k p1) p2)) (tPart (tUn (rU fun i => .int (-i)) (tC (.int 1)))) := po_some (pe_un un_neg pe_int)
  refine wpAny_Slice (thn (po_none.run pins s1 σ H1 (fun o H2 => o = none ∧ H2 = H1) I1 ⟨rfl, rfl⟩) fun vl s2 ⟨l, H2, I2, pl, el, e2⟩ => ?_)
  subst el e2
  refine thn (po_none.run pins s2 σ H2 (fun o H3 => o = none ∧ H3 = H2) I2 ⟨rfl, rfl⟩) fun vu s3 ⟨u, H3, I3, pu, eu, e3⟩ => ?_
  subst eu e3
  refine thn (hst.run pins s3 σ H3 (fun o H4 => o = some (-1) ∧ H4 = H3) I3 ⟨1, rfl, -1, rfl, rfl, rfl⟩) fun vs s4 ⟨o, H4, I4, ps, eo, e4⟩ => ?_
  subst eo e4
  have I5 : Inv X pins σ H4 { s4 with heap := s4.heap.push { cls := .type "slice", data := .fields #[vl, vu, vs] } } := I4.kept (t' := s4.toks) fun b ob q => Heap.get?_push_of_some _ q
  obtain ⟨its, r, ht, hz⟩ := I5.tuple hx
  have hlen := r.length
  show wpAny (model X.prog X.w) X.A (subscriptTail e (.Slice none none (some (.UnaryOp .USub (.Constant (.int 1) k p1) p2)) p3) (.ref a) (.ref s4.heap.objs.size)) (EP X pins σ Q) X.xe { s4 with heap := s4.heap.push { cls := .type "slice", data := .fields #[vl, vu, vs] } }
  refine tail_any (ops := [.ref a, .ref s4.heap.objs.size]) ht.typeIs (PyProof.Rows.slot_tuple_getitem.lookup) ?_ (by with_unfolding_all rfl)
  refine getItem_tuple_rev ht (Heap.IsSliceOf.new _ vl vu vs) pl pu ps ?_ (by rw [List.size_toArray]; omega)
  refine ⟨.ref _, _, I5.laid (t' := s4.toks) (o := .tup xs.reverse) (fun b ob q => Heap.get?_push_of_some _ q) (Nat.le_refl _) ?_, rfl, q _ (I5.hok.fresh (Nat.le_refl _))⟩
  exact ⟨by rw [List.length_reverse]; exact hz, _, r.reverse, _, Heap.get?_push_size _ rfl, rfl, _, rfl⟩
end Nm

/-! _law_bent: terms with something otherwise. -/
namespace Nm
open PySem PySem.Spec PyProof.Rows L2 LamX
abbrev sBent : Stmt := topS 41
/-- no place of the bag -/
def DB (b g : Addr) : Addr → Prop := fun a => a ≠ b ∧ a ≠ g
section
variable {b g : Addr} {H H' : Hp} {v : V} {d : PyData} {xs ys : List V} {ds es : List PyData} {S : Addr → Prop}
theorem DE.kt (k : KT b g H H') (x : DE (DB b g) H v d) : DE (DB b g) H' v d := DE.keep (fun a o sa n h => ⟨sa, k a o h sa.1 sa.2 n⟩) x
theorem DEs.kt (k : KT b g H H') (x : DEs (DB b g) H xs ds) : DEs (DB b g) H' xs ds := DEs.keep (fun a o sa n h => ⟨sa, k a o h sa.1 sa.2 n⟩) x
theorem DE.ofNone {n : Nat} (B : BagAt H b g n) (x : DE (fun a => H a = none) H' v d) : DE (DB b g) H' v d := DE.keep (fun a o sa _ h => ⟨B.off (H2 := H) sa, h⟩) x
theorem DE.ofNew {n : Nat} (B : BagAt H b g n) (x : DE (New H) H' v d) : DE (DB b g) H' v d := DE.keep (fun a o sa _ h => by
  obtain ⟨⟨ys, h1⟩, zs, h2⟩ := B.ne_lst
  refine ⟨⟨fun z => ?_, fun z => ?_⟩, h⟩
  · obtain ⟨ps, e⟩ := sa _ (by rw [z]; exact h1)
    cases e
  · obtain ⟨ps, e⟩ := sa _ (by rw [z]; exact h2)
    cases e) x
theorem DEs.drop : ∀ {xs : List V} {ds : List PyData} (i : Nat), DEs S H xs ds → DEs S H (xs.drop i) (ds.drop i)
  | _, _, 0, h => h
  | _, _, i + 1, .nil => .nil
  | _, _, i + 1, .cons _ r => DEs.drop i r
theorem DEs.take : ∀ {xs : List V} {ds : List PyData} (i : Nat), DEs S H xs ds → DEs S H (xs.take i) (ds.take i)
  | _, _, 0, _ => .nil
  | _, _, i + 1, .nil => .nil
  | _, _, i + 1, .cons x r => .cons x (DEs.take i r)
theorem DEs.rev : ∀ {xs : List V} {ds : List PyData}, DEs S H xs ds → DEs S H xs.reverse ds.reverse
  | _, _, .nil => .nil
  | _, _, .cons x r => by
    rw [List.reverse_cons, List.reverse_cons]
    exact DEs.app (DEs.rev r) (.cons x .nil)
theorem bdDs_of : ∀ {xs : List PyData}, (∀ d ∈ xs, bdD d = true) → bdDs xs = true
  | [], _ => rfl
  | x :: xs, h => by
    show (bdD x && bdDs xs) = true
    rw [h x List.mem_cons_self, bdDs_of fun d hd => h d (List.mem_cons_of_mem _ hd)]
    rfl
theorem bdT_of (h : ∀ d ∈ ds, bdD d = true) : bdD (.tuple ds) = true := bdDs_of h
theorem bdL_of (h : ∀ d ∈ ds, bdD d = true) : bdD (.list ds) = true := bdDs_of h
/-- a tuple of data, its parts of no great numbers -/
structure TD (b g : Addr) (H : Hp) (v : V) (m : Nat) : Prop where
  ex : ∃ a xs ds, v = .ref a ∧ H a = some (.tup xs) ∧ DB b g a ∧ DEs (DB b g) H xs ds ∧ (∀ d ∈ ds, bdD d = true) ∧ ds.length ≤ m
theorem TD.kt {m : Nat} (k : KT b g H H') (x : TD b g H v m) : TD b g H' v m := by
  obtain ⟨a, xs, ds, rfl, ha, hb, hx, h1, h2⟩ := x
  exact ⟨a, xs, ds, rfl, k a _ ha hb.1 hb.2 (fun _ z => nomatch z), hb, hx.kt k, h1, h2⟩
theorem TD.mono {m m' : Nat} (x : TD b g H v m) (h : m ≤ m') : TD b g H v m' := by
  obtain ⟨a, xs, ds, e, ha, hb, hx, h1, h2⟩ := x
  exact ⟨a, xs, ds, e, ha, hb, hx, h1, by omega⟩
theorem TD.de {m : Nat} (x : TD b g H v m) : ∃ d, DE (DB b g) H v d ∧ bdD d = true ∧ wdD d ≤ m := by
  obtain ⟨a, xs, ds, rfl, ha, hb, hx, h1, h2⟩ := x
  exact ⟨.tuple ds, .tup hb ha hx, bdT_of h1, h2⟩
theorem TD.new {m n : Nat} {p : Addr} (B : BagAt H b g n) (hp : H p = none) (hx : DEs (DB b g) H xs ds) (h1 : ∀ d ∈ ds, bdD d = true) (h2 : ds.length ≤ m) : TD b g (L2.upd H p (.tup xs)) (.ref p) m :=
  ⟨p, xs, ds, rfl, upd_same, B.off (H2 := H) hp, DEs.kt (KT.ofB (KeptB.of (same_upd hp))) hx, h1, h2⟩
/-- data with a bound -/
def OkD (b g : Addr) (H : Hp) (v : V) (M : Nat) : Prop := ∃ d, DE (DB b g) H v d ∧ bdD d = true ∧ wdD d ≤ M
theorem OkD.kt {M : Nat} (k : KT b g H H') (x : OkD b g H v M) : OkD b g H' v M := by
  obtain ⟨d, e1, e2, e3⟩ := x
  exact ⟨d, e1.kt k, e2, e3⟩
theorem OkD.kb {M : Nat} (k : KeptB b g H H') (x : OkD b g H v M) : OkD b g H' v M := x.kt (KT.ofB k)
theorem TD.kb {m : Nat} (k : KeptB b g H H') (x : TD b g H v m) : TD b g H' v m := x.kt (KT.ofB k)
theorem TD.ok {m M : Nat} (x : TD b g H v m) (h : m ≤ M) : OkD b g H v M := by
  obtain ⟨d, e1, e2, e3⟩ := x.de
  exact ⟨d, e1, e2, by omega⟩
theorem OkD.lst {M n : Nat} {p : Addr} (B : BagAt H b g n) (hp : H p = none) (hx : DEs (DB b g) H xs ds) (h1 : ∀ d ∈ ds, bdD d = true) : OkD b g (L2.upd H p (.lst xs)) (.ref p) M :=
  ⟨.list ds, .lst (B.off (H2 := H) hp) upd_same (DEs.kt (KT.ofB (KeptB.of (same_upd hp))) hx), bdL_of h1, Nat.zero_le _⟩
/-- a tuple of one thing -/
theorem TD.one {n M : Nat} {p : Addr} (B : BagAt H b g n) (hp : H p = none) (x : OkD b g H v M) : TD b g (L2.upd H p (.tup [v])) (.ref p) 1 := by
  obtain ⟨d, e1, e2, _⟩ := x
  exact TD.new B hp (.cons e1 .nil) (fun d' h => by rw [List.mem_singleton.mp h]; exact e2) (Nat.le_refl _)
theorem DEs.ofNew {n : Nat} (B : BagAt H b g n) : ∀ {xs : List V} {ds : List PyData}, DEs (New H) H' xs ds → DEs (DB b g) H' xs ds
  | _, _, .nil => .nil
  | _, _, .cons x r => .cons (DE.ofNew B x) (DEs.ofNew B r)
theorem tm_bd {t : Tm} (h : TmOk t) : bdD (tmD t) = true := by
  obtain ⟨⟨_, c2, _, c4, c5⟩, ⟨q1, q2, _, q4, q5⟩, k1, k2⟩ := h
  have e30 : (10 : Int) ^ 30 ≤ 10 ^ 60 := by decide +kernel
  have z : t.1.1.natAbs ≤ 10 ^ 30 := c4
  have e31 : ((10 ^ 30 : Nat) : Int) = 10 ^ 30 := by decide +kernel
  have big : (1000 : Int) ≤ 10 ^ 60 := by decide +kernel
  have i1 : -(10 ^ 60) ≤ t.1.1 ∧ t.1.1 ≤ 10 ^ 60 := by omega
  have i2 : -(10 ^ 60) ≤ t.1.2 ∧ t.1.2 ≤ 10 ^ 60 := by omega
  have i3 : -(10 ^ 60) ≤ t.2.1 ∧ t.2.1 ≤ 10 ^ 60 := by
    have k1 : 0 ≤ t.2.1 := k1
    have k2 : t.2.1 ≤ 3 := k2
    omega
  have i4 : -(10 ^ 60) ≤ t.2.2.2 ∧ t.2.2.2 ≤ 10 ^ 60 := by
    have q1 : 1 ≤ t.2.2.2 := q1
    have q2 : t.2.2.2 ≤ 4 := q2
    omega
  have i5 : -(10 ^ 60) ≤ t.2.2.1 ∧ t.2.2.1 ≤ 10 ^ 60 := by
    have q1 : 1 ≤ t.2.2.2 := q1
    have q2 : t.2.2.2 ≤ 4 := q2
    have q4 : -(4 * t.2.2.2) ≤ t.2.2.1 := q4
    have q5 : t.2.2.1 ≤ 4 * t.2.2.2 := q5
    omega
  refine bdT_of fun d hd => ?_
  simp only [List.mem_cons, List.not_mem_nil, or_false] at hd
  rcases hd with rfl | rfl | rfl
  · refine bdT_of fun d hd => ?_
    simp only [List.mem_cons, List.not_mem_nil, or_false] at hd
    rcases hd with rfl | rfl
    · exact decide_eq_true i1
    · exact decide_eq_true i2
  · exact decide_eq_true i3
  · refine bdT_of fun d hd => ?_
    simp only [List.mem_cons, List.not_mem_nil, or_false] at hd
    rcases hd with rfl | rfl
    · exact decide_eq_true i5
    · exact decide_eq_true i4
theorem TD.ofCv {n : Nat} {D : Addr} {ts : List Tm} (B : BagAt H b g n) (cv : CvOk ts) (len : (ts.length : Int) ≤ 8) (x : DS (New H) H' (.ref D) (cvD ts)) : TD b g H' (.ref D) 8 := by
  have y : DE (New H) H' (.ref D) (.tuple (ts.map tmD)) := DS.toE x
  cases y with
  | @tup a xs ds s0 h0 r0 =>
  have off := DE.ofNew B (DE.tup s0 h0 r0)
  cases off with
  | @tup _ xs2 _ sD hD rD =>
  refine ⟨D, xs2, _, rfl, hD, sD, rD, fun d hd => ?_, by rw [List.length_map]; omega⟩
  obtain ⟨t, ht, rfl⟩ := List.mem_map.mp hd
  exact tm_bd (cv.1 t ht)
/-- a slice of it -/
theorem TD.cut {m n : Nat} {lo hi : Option Int} {K : PySem.W.Frag} {Q : VK} (B : BagAt H b g n) (x : TD b g H v m) (q : ∀ v' H', Same H H' → TD b g H' v' m → Q v' H') : rSlA K v lo hi H Q := by
  obtain ⟨a, xs, ds, rfl, ha, hb, hx, h1, h2⟩ := id x
  refine ⟨a, xs, rfl, SqT.of ha, fun _ => q _ H (fun _ _ h => h) x, fun _ p hp => q _ _ (same_upd hp) ?_⟩
  refine TD.new B hp (ds := (ds.drop (HT.sIx xs.length 0 lo)).take (HT.sIx xs.length xs.length hi - HT.sIx xs.length 0 lo)) ((hx.drop _).take _) (fun d hd => h1 d (List.mem_of_mem_drop (List.mem_of_mem_take hd))) ?_
  rw [List.length_take, List.length_drop]
  omega
theorem TD.cutN {m n : Nat} {lo : Option Int} {K : PySem.W.Frag} {Q : VK} {σ : L2.St} (B : BagAt H b g n) (x : TD b g H v m) (q : ∀ v' H', Same H H' → TD b g H' v' m → Q v' H') : tNoPart σ H (fun u H' => rSlA K v lo u H' Q) := TD.cut B x q
/-- two of them together -/
theorem TD.cat {m m' n : Nat} {v' : V} {K : PySem.W.Frag} {Q : VK} (B : BagAt H b g n) (x : TD b g H v m) (y : TD b g H v' m') (hm : m + m' ≤ 100000) (q : ∀ w H', Same H H' → TD b g H' w (m + m') → Q w H') : rCatA K v v' H Q := by
  obtain ⟨a, xs, ds, rfl, ha, hb, hx, h1, h2⟩ := id x
  obtain ⟨a', xs', ds', rfl, ha', hb', hx', h1', h2'⟩ := id y
  have l1 := hx.len
  have l2 := hx'.len
  refine ⟨a, a', xs, xs', rfl, rfl, SqT.of ha, SqT.of ha', ?_, fun _ => q _ H (fun _ _ h => h) (y.mono (by omega)), fun _ _ => q _ H (fun _ _ h => h) (x.mono (by omega)), fun _ _ p hp => q _ _ (same_upd hp) ?_⟩
  · exact Nat.le_trans (show xs.length + xs'.length ≤ 100000 by omega) (by decide)
  refine TD.new B hp (DEs.app hx hx') (fun d hd => ?_) (by rw [List.length_append]; omega)
  rcases List.mem_append.mp hd with h | h
  · exact h1 d h
  · exact h1' d h
end
section
variable {P : Program} {w : World} {K : PySem.W.Frag} {mg : Str → Option Value} {base : Heap}
structure BntT (P : Program) (w : World) (K : PySem.W.Frag) (mg : Str → Option Value) (base : Heap) (t : Addr) extends NumT P w K mg base where
  fO : Addr
  fdO : FuncData
  fC : Addr
  fdC : FuncData
  FO : FnOk P w K mg base CX0 3 fO fdO ["_law_bag_here"] spOdd
  FC : FnOk P w K mg base CX0 4 fC fdC ["_law_bag_here", "_law_size"] (spCurve (LT t))
  bO : Binds K fdO ["_law_bag_here"] []
  bC : Binds K fdC ["_law_bag_here", "_law_size"] []
  gO : mg "_law_odd" = some (.ref fO)
  gC : mg "_law_curve" = some (.ref fC)
  kO : PySem.W.keepIn K (.ref fO) = true
  kC : PySem.W.keepIn K (.ref fC) = true
  list : mg "list" = none
def spBent (T : List (Addr × Str)) : Sp := fun vs H Q _ => ∃ (b g : Addr) (n m : Nat) (x : V) (d : PyData), vs = [.ref b, x] ∧ BagAt H b g n ∧ n < 999999800000 ∧ DE (DB b g) H x d ∧ bdD d = true ∧ wdD d ≤ m ∧ m ≤ 400 ∧ Tabs T H ∧
  ∀ (v : V) (d' : PyData) (H' : Hp), DE (DB b g) H' v d' → bdD d' = true → wdD d' ≤ 3 * m + 10 → KT b g H H' → Tabs T H' → BagAt H' b g (n + 1000) → Q v H'
theorem scBent : FnScope ["_law_bag_here", "_law_terms_here", "_law_at", "_law_way", "_law_term", "_law_part", "_law_other"] ["_law_bag_here", "_law_terms_here"] (defScope sBent) := ⟨rfl, rfl, rfl, by decide +kernel, rfl, by decide +kernel, by decide +kernel⟩
theorem ok_bent {f t : Addr} {fd : FuncData} (F : Fun K "_law_bent" "_law_bent" sBent f fd) (J : JudT mg) (T : BntT P w K mg base t) : FnOk P w K mg base CX0 5 f fd ["_law_bag_here", "_law_terms_here"] (spBent (LT t)) := by
  refine F.ok scBent (fun vs H Q E h => ?_) (fun cdv A outer s H vs Q E hr h => ?_)
  · obtain ⟨b, g, n, m, x, d, rfl, _⟩ := h
    rfl
  · obtain ⟨b, g, n, m, x, d, rfl, B, hn, hd, bd, wd, hm, hT, q⟩ := h
    have hr3 : Room 3 _ := hr.mono (by decide)
    have hr2 : Room 2 _ := hr.mono (by decide)
    have hr1 : Room 1 _ := hr.mono (by decide)
    refine ⟨_, pss_cons (ps_if (pt_not (pt_val (pe_callB call_isi (by rfl) J.isi (by decide +kernel) (pa_cons (pv 1) (pa_cons (pe_bltn (v := .ty "tuple") (by rfl) J.tup (by decide +kernel) rfl) pa_nil))))) (pss_one (ps_ret (pv 1))) pss_nil)
      (pss_cons (ps_par (i := 2) (j := 3) (by rfl) scBent.nd rfl rfl (by decide) rfl rfl (pa_cons (pe_call T.FP hr1 (by rfl) T.gP T.kP T.bP .nil pass0 (pa_cons (pv 0) (pa_cons (pe_op op_add (pe_callB call_len_seq (by rfl) J.len PySem.boot_len (pa_cons (pv 1) pa_nil)) pe_int) pa_nil))) (pa_cons (pe_call T.FP hr1 (by rfl) T.gP T.kP T.bP .nil pass0 (pa_cons (pv 0) (pa_cons pe_int pa_nil))) pa_nil)) (by rfl))
      (pss_cons (ps_if (pt_cmpR op_eq (pv 3) pe_int (nomark _)) (pss_one (ps_ret (pe_call T.FS hr2 (by rfl) T.gS T.kS T.bS .nil pass0 (pa_cons (pv 0) (pa_cons (pe_lst (pa_cons (pe_callTy call_list_of (by rfl) T.list (by decide +kernel) (pa_cons (pv 1) pa_nil)) (pa_cons (pe_call T.FO hr3 (by rfl) T.gO T.kO T.bO .nil pass0 (pa_cons (pv 0) pa_nil)) (pa_cons (pe_slice sl_tupA (pv 1) po_none (po_some (pv 2))) (pa_cons (pe_revT (pv 1)) pa_nil))))) pa_nil))))) pss_nil)
      (pss_cons (ps_if (pt_cmpR op_eq (pv 3) pe_int (nomark _)) (pss_one (ps_ret (pe_op op_catA (pe_op op_catA (pe_slice sl_tupA (pv 1) po_none (po_some (pv 2))) (pe_tup (pa_cons (pe_call T.FO hr3 (by rfl) T.gO T.kO T.bO .nil pass0 (pa_cons (pv 0) pa_nil)) pa_nil))) (pe_slice sl_tupA (pv 1) (po_some (pv 2)) po_none)))) pss_nil)
      (pss_cons (ps_if (pt_cmpR op_eq (pv 3) pe_int (nomark _)) (pss_one (ps_ret (pe_op op_catA (pe_op op_catA (pe_slice sl_tupA (pv 1) po_none (po_some (pv 2))) (pe_slice sl_tupA (pv 1) (po_some (pv 2)) (po_some (pe_op op_add (pv 2) pe_int)))) (pe_slice sl_tupA (pv 1) (po_some (pv 2)) po_none)))) pss_nil)
      (pss_cons (ps_if (pt_cmpR op_eq (pv 3) pe_int (nomark _)) (pss_one (ps_ret (pe_op op_catA (pe_op op_catA (pe_slice sl_tupA (pv 1) po_none (po_some (pv 2))) (pe_revT (pe_slice sl_tupA (pv 1) (po_some (pv 2)) (po_some (pe_op op_add (pv 2) pe_int))))) (pe_slice sl_tupA (pv 1) (po_some (pe_op op_add (pv 2) pe_int)) po_none)))) pss_nil)
      (pss_cons (ps_if (pt_cmpR op_eq (pv 3) pe_int (nomark _)) (pss_one (ps_ret (pe_op op_catA (pe_slice sl_tupA (pv 1) po_none (po_some (pv 2))) (pe_slice sl_tupA (pv 1) (po_some (pe_op op_add (pv 2) pe_int)) po_none)))) pss_nil)
      (pss_cons (ps_if (PW.pt (pw_and (pt_cmpR op_lt (pv 2) (pe_callB call_len_seq (by rfl) J.len PySem.boot_len (pa_cons (pv 1) pa_nil)) (nomark _)) (pw_and (pt_val (pe_callB call_isi (by rfl) J.isi (by decide +kernel) (pa_cons (pe_ix ix_tup (pv 1) (pv 2) (fun _ _ => rfl)) (pa_cons (pe_bltn (v := .ty "tuple") (by rfl) J.tup (by decide +kernel) rfl) pa_nil)))) (pw_and1 (pt_cmpR op_eq (pe_callB call_len_seq (by rfl) J.len PySem.boot_len (pa_cons (pe_ix ix_tup (pv 1) (pv 2) (fun _ _ => rfl)) pa_nil)) pe_int (nomark _))))))
        (pss_cons (ps_par (i := 4) (j := 5) (by rfl) scBent.nd rfl rfl (by decide) rfl rfl (pa_cons (pe_ix ix_tup (pv 1) (pv 2) (fun _ _ => rfl)) (pa_cons (pe_call T.FP hr1 (by rfl) T.gP T.kP T.bP .nil pass0 (pa_cons (pv 0) (pa_cons pe_int pa_nil))) pa_nil)) (by rfl)) (pss_cons (ps_set (i := 6) scBent.nd rfl (.inl rfl) (pe_op op_catA (pe_op op_catA (pe_slice sl_tupA (pv 4) po_none (po_some (pv 5))) (pe_tup (pa_cons (pe_call T.FO hr3 (by rfl) T.gO T.kO T.bO .nil pass0 (pa_cons (pv 0) pa_nil)) pa_nil))) (pe_slice sl_tupA (pv 4) (po_some (pe_op op_add (pv 5) pe_int)) po_none))) (pss_one (ps_ret (pe_op op_catA (pe_op op_catA (pe_slice sl_tupA (pv 1) po_none (po_some (pv 2))) (pe_tup (pa_cons (pe_call T.FS hr2 (by rfl) T.gS T.kS T.bS .nil pass0 (pa_cons (pv 0) (pa_cons (pe_lst (pa_cons (pv 6) (pa_cons (pv 6) (pa_cons (pe_callTy call_list_of (by rfl) T.list (by decide +kernel) (pa_cons (pv 4) pa_nil)) (pa_cons (pe_slice sl_tupA (pv 4) po_none (po_some pe_int)) (pa_cons (pe_op op_catA (pv 4) (pe_tup (pa_cons pe_int pa_nil))) pa_nil)))))) pa_nil))) pa_nil))) (pe_slice sl_tupA (pv 1) (po_some (pe_op op_add (pv 2) pe_int)) po_none)))))) pss_nil)
      (pss_one (ps_ret (pe_op op_catA (pv 1) (pe_call T.FC hr (by rfl) T.gC T.kC T.bC .nil pass0 (pa_cons (pv 0) (pa_cons pe_int pa_nil))))))))))))), ?_⟩
    have stay : Q x H := q x d H hd bd (by omega) (KT.refl _) hT (B.mono (by omega))
    refine ⟨_, rfl, _, _, _, _, _, rfl, .ty "tuple", de_ty hd, kit_t d, _, rfl, ?_⟩
    cases hd with
    | non => exact iteT ⟨_, rfl, stay⟩
    | bl b => exact iteT ⟨_, rfl, stay⟩
    | int i => exact iteT ⟨_, rfl, stay⟩
    | str x => exact iteT ⟨_, rfl, stay⟩
    | lst _ _ _ => exact iteT ⟨_, rfl, stay⟩
    | dic _ _ => exact iteT ⟨_, rfl, stay⟩
    | @tup a xs ds hS ha hx =>
    clear stay
    refine iteF ?_
    have hl := hx.len
    have wd : ds.length ≤ m := wd
    have T0 : TD b g H (.ref a) m := ⟨a, xs, ds, rfl, ha, hS, hx, bdT bd, wd⟩
    refine ⟨_, rfl, _, rfl, a, xs, rfl, .inr (SqT.of ha), _, 1, rfl, rfl, b, g, n, _, rfl, B, by omega, by omega, Int.lt_of_le_of_lt (show (xs.length : Int) + 1 ≤ 1000 by omega) (by decide +kernel), fun at_ H1 at0 at1 B1 K1 => ?_⟩
    refine ⟨_, rfl, b, g, n + 1, 9, rfl, B1, by omega, by decide, by decide +kernel, fun way H2 _ _ B2 K2 => ?_⟩
    have k2 := K1.trans K2
    have T2 : TD b g H2 (.ref a) m := T0.kt (KT.ofB k2)
    have ha2 : H2 a = some (.tup xs) := k2 a _ ha hS.1 hS.2
    refine ⟨_, _, rfl, ?_⟩
    -- what is told is handed out
    have fin : ∀ (v : V) (H' : Hp) (n' : Nat), (∃ d, DE (DB b g) H' v d ∧ bdD d = true ∧ wdD d ≤ 3 * m + 10) → KeptB b g H H' → BagAt H' b g n' → n' ≤ n + 1000 → Q v H' := fun v H' n' ⟨d', e1, e2, e3⟩ k B' hn' =>
      q v d' H' e1 e2 e3 (KT.ofB k) (Nm.Tabs.keptB hT k B) (B'.mono hn')
    have finT : ∀ (v : V) (H' : Hp) (n' m' : Nat), TD b g H' v m' → m' ≤ 3 * m + 10 → KeptB b g H H' → BagAt H' b g n' → n' ≤ n + 1000 → Q v H' := fun v H' n' m' x hm' k B' hn' => fin v H' n' (x.ok hm') k B' hn'
    refine ⟨_, rfl, rfl, _, rfl, ?_⟩
    refine ite2 (fun _ => ?_) (fun _ => ?_)
    · refine ⟨_, rfl, _, rfl, a, xs, rfl, .inr (SqT.of ha2), fun l nl => ?_⟩
      have K3 : KeptB b g H2 (L2.upd H2 l (.lst xs)) := KeptB.of (same_upd nl)
      have B3 := B2.new (o := .lst xs) nl
      have L3 : OkD b g (L2.upd H2 l (.lst xs)) (.ref l) (3 * m + 10) := OkD.lst B2 nl (hx.kt (KT.ofB k2)) (bdT bd)
      generalize L2.upd H2 l (.lst xs) = H3 at *
      have k3 := k2.trans K3
      refine ⟨_, rfl, b, g, n + 2, rfl, B3, by omega, fun vo dd H4 od obd owd K4 B4 => ?_⟩
      have k4 := k3.trans K4
      have O4 : OkD b g H4 vo (3 * m + 10) := ⟨dd, DE.ofNone B3 od, obd, by omega⟩
      refine ⟨_, rfl, _, rfl, at_, rfl, TD.cut B4 (T0.kb k4) fun vc H5 s5 T5 => ?_⟩
      have K5 := KeptB.of (b := b) (g := g) s5
      have k5 := k4.trans K5
      have B5 := B4.same s5
      have ha5 : H5 a = some (.tup xs) := k5 a _ ha hS.1 hS.2
      refine ⟨_, rfl, a, xs, rfl, SqT.of ha5, fun p hp => ?_⟩
      have K6 : KeptB b g H5 (L2.upd H5 p (.tup xs.reverse)) := KeptB.of (same_upd hp)
      have B6 := B5.new (o := .tup xs.reverse) hp
      have R6 : TD b g (L2.upd H5 p (.tup xs.reverse)) (.ref p) m := TD.new B5 hp (DEs.rev (hx.kt (KT.ofB k5))) (fun d h => bdT bd d (List.mem_reverse.mp h)) (by rw [List.length_reverse]; exact wd)
      generalize L2.upd H5 p (.tup xs.reverse) = H6 at *
      refine ⟨(by show 4 ≤ sizeLine; decide), fun L hL => ?_⟩
      obtain ⟨o1, o2⟩ := B6.off (H2 := H) hL
      have K7 : KeptB b g H6 (L2.upd H6 L (.lst [.ref l, vo, vc, .ref p])) := KeptB.of (same_upd hL)
      refine ⟨b, g, L, n + 3, _, rfl, B6.new hL, by omega, upd_same, o1, o2, by show 0 < 4; decide, by show 4 ≤ 1000; decide, fun j v H8 hv B8 K8 => ?_⟩
      have K68 := K7.trans K8
      have k8 := (k5.trans K6).trans K68
      refine fin v H8 _ ?_ k8 B8 (by omega)
      have hv := List.mem_of_getElem? hv
      simp only [List.mem_cons, List.not_mem_nil, or_false] at hv
      rcases hv with rfl | rfl | rfl | rfl
      · exact (((L3.kb K4).kb K5).kb K6).kb K68
      · exact ((O4.kb K5).kb K6).kb K68
      · exact (((T5.kb K6).kb K68).ok (by omega))
      · exact (R6.kb K68).ok (by omega)
    refine ⟨_, rfl, rfl, _, rfl, ?_⟩
    refine ite2 (fun _ => ?_) (fun _ => ?_)
    · -- [:at] + (odd,) + [at:]
      refine ⟨_, rfl, _, rfl, at_, rfl, TD.cut B2 T2 fun v1 H3 s3 T3 => ?_⟩
      have k3 := k2.trans (KeptB.of (b := b) (g := g) s3)
      have B3 := B2.same s3
      refine ⟨_, rfl, b, g, n + 2, rfl, B3, by omega, fun vo dd H4 od obd owd K4 B4 => ⟨(by show 1 ≤ sizeLine; decide), fun p hp => ?_⟩⟩
      have k4 := k3.trans K4
      have K5 : KeptB b g H4 (L2.upd H4 p (.tup [vo])) := KeptB.of (same_upd hp)
      have B5 := B4.new (o := .tup [vo]) hp
      have O5 : TD b g (L2.upd H4 p (.tup [vo])) (.ref p) 1 := TD.one (M := 10) B4 hp ⟨dd, DE.ofNone B3 od, obd, owd⟩
      generalize L2.upd H4 p (.tup [vo]) = H5 at *
      have k5 := k4.trans K5
      refine TD.cat B5 ((T3.kb K4).kb K5) O5 (by omega) fun w1 H6 s6 W6 => ?_
      have k6 := k5.trans (KeptB.of (b := b) (g := g) s6)
      have B6 := B5.same s6
      refine ⟨_, rfl, _, rfl, at_, rfl, TD.cutN B6 (T0.kb k6) fun v2 H7 s7 T7 => ?_⟩
      have K7 := KeptB.of (b := b) (g := g) s7
      have B7 := B6.same s7
      refine TD.cat B7 (W6.kb K7) T7 (by omega) fun w2 H8 s8 W8 => ?_
      exact finT w2 H8 (n + 3) _ W8 (by omega) ((k6.trans K7).trans (KeptB.of s8)) (B7.same s8) (by omega)
    refine ⟨_, rfl, rfl, _, rfl, ?_⟩
    refine ite2 (fun _ => ?_) (fun _ => ?_)
    · -- [:at] + [at:at + 1] + [at:]
      refine ⟨_, rfl, _, rfl, at_, rfl, TD.cut B2 T2 fun v1 H3 s3 T3 => ?_⟩
      have k3 := k2.trans (KeptB.of (b := b) (g := g) s3)
      have B3 := B2.same s3
      refine ⟨_, rfl, _, rfl, at_, rfl, _, rfl, at_, 1, rfl, rfl, at_ + 1, rfl, TD.cut B3 (T0.kb k3) fun v2 H4 s4 T4 => ?_⟩
      have K4 := KeptB.of (b := b) (g := g) s4
      have B4 := B3.same s4
      refine TD.cat B4 (T3.kb K4) T4 (by omega) fun w1 H6 s6 W6 => ?_
      have k6 := (k3.trans K4).trans (KeptB.of (b := b) (g := g) s6)
      have B6 := B4.same s6
      refine ⟨_, rfl, _, rfl, at_, rfl, TD.cutN B6 (T0.kb k6) fun v3 H7 s7 T7 => ?_⟩
      have K7 := KeptB.of (b := b) (g := g) s7
      have B7 := B6.same s7
      refine TD.cat B7 (W6.kb K7) T7 (by omega) fun w2 H8 s8 W8 => ?_
      exact finT w2 H8 (n + 2) _ W8 (by omega) ((k6.trans K7).trans (KeptB.of s8)) (B7.same s8) (by omega)
    refine ⟨_, rfl, rfl, _, rfl, ?_⟩
    refine ite2 (fun _ => ?_) (fun _ => ?_)
    · -- [:at] + [at:at + 2][::-1] + [at + 2:]
      refine ⟨_, rfl, _, rfl, at_, rfl, TD.cut B2 T2 fun v1 H3 s3 T3 => ?_⟩
      have k3 := k2.trans (KeptB.of (b := b) (g := g) s3)
      have B3 := B2.same s3
      refine ⟨_, rfl, _, rfl, at_, rfl, _, rfl, at_, 2, rfl, rfl, at_ + 2, rfl, TD.cut B3 (T0.kb k3) fun v2 H4 s4 T4 => ?_⟩
      have K4 := KeptB.of (b := b) (g := g) s4
      have B4 := B3.same s4
      obtain ⟨a4, xs4, ds4, rfl, ha4, hb4, hx4, bd4, wd4⟩ := id T4
      refine ⟨a4, xs4, rfl, SqT.of ha4, fun p hp => ?_⟩
      have K5 : KeptB b g H4 (L2.upd H4 p (.tup xs4.reverse)) := KeptB.of (same_upd hp)
      have B5 := B4.new (o := .tup xs4.reverse) hp
      have R5 : TD b g (L2.upd H4 p (.tup xs4.reverse)) (.ref p) m := TD.new B4 hp (DEs.rev hx4) (fun d h => bd4 d (List.mem_reverse.mp h)) (by rw [List.length_reverse]; exact wd4)
      generalize L2.upd H4 p (.tup xs4.reverse) = H5 at *
      refine TD.cat B5 ((T3.kb K4).kb K5) R5 (by omega) fun w1 H6 s6 W6 => ?_
      have k6 := ((k3.trans K4).trans K5).trans (KeptB.of (b := b) (g := g) s6)
      have B6 := B5.same s6
      refine ⟨_, rfl, _, rfl, at_, 2, rfl, rfl, at_ + 2, rfl, TD.cutN B6 (T0.kb k6) fun v3 H7 s7 T7 => ?_⟩
      have K7 := KeptB.of (b := b) (g := g) s7
      have B7 := B6.same s7
      refine TD.cat B7 (W6.kb K7) T7 (by omega) fun w2 H8 s8 W8 => ?_
      exact finT w2 H8 (n + 2) _ W8 (by omega) ((k6.trans K7).trans (KeptB.of s8)) (B7.same s8) (by omega)
    refine ⟨_, rfl, rfl, _, rfl, ?_⟩
    refine ite2 (fun _ => ?_) (fun _ => ?_)
    · -- [:at] + [at + 1:]
      refine ⟨_, rfl, _, rfl, at_, rfl, TD.cut B2 T2 fun v1 H3 s3 T3 => ?_⟩
      have k3 := k2.trans (KeptB.of (b := b) (g := g) s3)
      have B3 := B2.same s3
      refine ⟨_, rfl, _, rfl, at_, 1, rfl, rfl, at_ + 1, rfl, TD.cutN B3 (T0.kb k3) fun v3 H7 s7 T7 => ?_⟩
      have K7 := KeptB.of (b := b) (g := g) s7
      have B7 := B3.same s7
      refine TD.cat B7 (T3.kb K7) T7 (by omega) fun w2 H8 s8 W8 => ?_
      exact finT w2 H8 (n + 2) _ W8 (by omega) ((k3.trans K7).trans (KeptB.of s8)) (B7.same s8) (by omega)
    -- a term otherwise, or a curve more
    have tabs2 : Tabs (LT t) H2 := Nm.Tabs.keptB hT k2 B
    refine ⟨_, rfl, _, rfl, a, xs, rfl, .inr (SqT.of ha2), at_, _, rfl, rfl, _, rfl, ?_⟩
    refine ite2 (fun c0 => ?_) (fun _ => ?_)
    · have c0 : at_ < (xs.length : Int) := of_decide_eq_true c0
      obtain ⟨j, rfl⟩ := Int.eq_ofNat_of_zero_le at0
      have hj : j < xs.length := by omega
      obtain ⟨xt, hxt⟩ : ∃ xt, xs[j]? = some xt := ⟨xs[j], List.getElem?_eq_getElem hj⟩
      obtain ⟨dt, hdt, rdt⟩ := hx.at hxt
      have bdt := bdT bd dt (List.mem_of_getElem? hdt)
      have rdt2 := rdt.kt (KT.ofB k2)
      refine ⟨_, rfl, _, rfl, a, _, _, xt, rfl, rfl, SqT.of ha2, atI_nat hxt, xt, _, _, _, _, rfl, .ty "tuple", de_ty rdt2, kit_t dt, _, rfl, ?_⟩
      refine ite2 (fun c1 => ?_) (fun _ => ?_)
      · cases rdt with
        | non => cases c1
        | bl b => cases c1
        | int i => cases c1
        | str x => cases c1
        | lst _ _ _ => cases c1
        | dic _ _ => cases c1
        | @tup a' xs' ds' hS' ha' hx' =>
        have ha'2 : H2 a' = some (.tup xs') := k2 a' _ ha' hS'.1 hS'.2
        refine ⟨_, rfl, _, rfl, a, _, _, .ref a', rfl, rfl, SqT.of ha2, atI_nat hxt, a', xs', rfl, .inr (SqT.of ha'2), rfl, _, rfl, ?_⟩
        have hl' := hx'.len
        refine ite2 (fun c2 => ?_) (fun _ => ?_)
        · have h3 : xs'.length = 3 := by
            have z := of_decide_eq_true c2
            injection z with z
            omega
          have Tt : TD b g H (.ref a') 3 := ⟨a', xs', ds', rfl, ha', hS', hx', bdT bdt, by omega⟩
          refine ⟨_, rfl, _, rfl, a, _, _, .ref a', rfl, rfl, SqT.of ha2, atI_nat hxt, _, rfl, b, g, n + 2, 3, rfl, B2, by omega, by decide, by decide +kernel, fun part H3 _ _ B3 K3 => ?_⟩
          have k3 := k2.trans K3
          refine ⟨_, _, rfl, ?_⟩
          -- term[:part] + (odd,) + term[part + 1:]
          refine ⟨_, rfl, _, rfl, part, rfl, TD.cut B3 (Tt.kb k3) fun v1 H4 s4 U4 => ?_⟩
          have K4 := KeptB.of (b := b) (g := g) s4
          have k4 := k3.trans K4
          have B4 := B3.same s4
          refine ⟨_, rfl, b, g, n + 3, rfl, B4, by omega, fun vo dd H5 od obd owd K5 B5 => ⟨(by show 1 ≤ sizeLine; decide), fun p hp => ?_⟩⟩
          have k5 := k4.trans K5
          have K6 : KeptB b g H5 (L2.upd H5 p (.tup [vo])) := KeptB.of (same_upd hp)
          have B6 := B5.new (o := .tup [vo]) hp
          have O6 : TD b g (L2.upd H5 p (.tup [vo])) (.ref p) 1 := TD.one (M := 10) B5 hp ⟨dd, DE.ofNone B4 od, obd, owd⟩
          generalize L2.upd H5 p (.tup [vo]) = H6 at *
          have k6 := k5.trans K6
          refine TD.cat B6 ((U4.kb K5).kb K6) O6 (by omega) fun w1 H7 s7 W7 => ?_
          have K7 := KeptB.of (b := b) (g := g) s7
          have k7 := k6.trans K7
          have B7 := B6.same s7
          refine ⟨_, rfl, _, rfl, part, 1, rfl, rfl, part + 1, rfl, TD.cutN B7 (Tt.kb k7) fun v2 H8 s8 U8 => ?_⟩
          have K8 := KeptB.of (b := b) (g := g) s8
          have k8 := k7.trans K8
          have B8 := B7.same s8
          refine TD.cat B8 (W7.kb K8) U8 (by omega) fun other H9 s9 W9 => ?_
          have K9 := KeptB.of (b := b) (g := g) s9
          have k9 := k8.trans K9
          have B9 := B8.same s9
          -- terms[:at]
          refine ⟨_, rfl, _, rfl, (j : Int), rfl, TD.cut B9 (T0.kb k9) fun v3 H10 s10 U10 => ?_⟩
          have K10 := KeptB.of (b := b) (g := g) s10
          have k10 := k9.trans K10
          have B10 := B9.same s10
          have ha10 : H10 a' = some (.tup xs') := k10 a' _ ha' hS'.1 hS'.2
          -- [other, other, list(term), term[:2], term + (0,)]
          refine ⟨_, rfl, _, rfl, _, rfl, _, rfl, a', xs', rfl, .inr (SqT.of ha10), fun l nl => ?_⟩
          have K11 : KeptB b g H10 (L2.upd H10 l (.lst xs')) := KeptB.of (same_upd nl)
          have B11 := B10.new (o := .lst xs') nl
          have L11 : OkD b g (L2.upd H10 l (.lst xs')) (.ref l) 10 := OkD.lst B10 nl (hx'.kt (KT.ofB k10)) (bdT bdt)
          generalize L2.upd H10 l (.lst xs') = H11 at *
          have k11 := k10.trans K11
          refine ⟨_, rfl, 2, rfl, TD.cut B11 (Tt.kb k11) fun v4 H12 s12 U12 => ?_⟩
          have K12 := KeptB.of (b := b) (g := g) s12
          have k12 := k11.trans K12
          have B12 := B11.same s12
          refine ⟨_, rfl, (by show 1 ≤ sizeLine; decide), fun p2 hp2 => ?_⟩
          have K13 : KeptB b g H12 (L2.upd H12 p2 (.tup [.int 0])) := KeptB.of (same_upd hp2)
          have B13 := B12.new (o := .tup [.int 0]) hp2
          have O13 : TD b g (L2.upd H12 p2 (.tup [.int 0])) (.ref p2) 1 := TD.one (M := 10) B12 hp2 ⟨.int 0, .int 0, by decide +kernel, Nat.zero_le _⟩
          generalize L2.upd H12 p2 (.tup [.int 0]) = H13 at *
          have k13 := k12.trans K13
          refine TD.cat B13 (Tt.kb k13) O13 (by omega) fun w3 H14 s14 W14 => ?_
          have K14 := KeptB.of (b := b) (g := g) s14
          have k14 := k13.trans K14
          have B14 := B13.same s14
          refine ⟨(by show 5 ≤ sizeLine; decide), fun L hL => ?_⟩
          obtain ⟨o1, o2⟩ := B14.off (H2 := H) hL
          have K15 : KeptB b g H14 (L2.upd H14 L (.lst [other, other, .ref l, v4, w3])) := KeptB.of (same_upd hL)
          refine ⟨b, g, L, n + 4, _, rfl, B14.new hL, by omega, upd_same, o1, o2, by show 0 < 5; decide, by show 5 ≤ 1000; decide, fun i v H16 hv B16 K16 => ?_⟩
          have K1516 := K15.trans K16
          have k16 := k14.trans K1516
          have ok : OkD b g H16 v 10 := by
            have hv := List.mem_of_getElem? hv
            simp only [List.mem_cons, List.not_mem_nil, or_false] at hv
            have up : KeptB b g H9 H16 := ((((K10.trans K11).trans K12).trans K13).trans K14).trans K1516
            have up11 : KeptB b g H11 H16 := ((K12.trans K13).trans K14).trans K1516
            have up12 : KeptB b g H12 H16 := (K13.trans K14).trans K1516
            rcases hv with rfl | rfl | rfl | rfl | rfl
            · exact (W9.kb up).ok (by omega)
            · exact (W9.kb up).ok (by omega)
            · exact L11.kb up11
            · exact (U12.kb up12).ok (by omega)
            · exact (W14.kb K1516).ok (by omega)
          refine ⟨(by show 1 ≤ sizeLine; decide), fun p3 hp3 => ?_⟩
          have K17 : KeptB b g H16 (L2.upd H16 p3 (.tup [v])) := KeptB.of (same_upd hp3)
          have B17 := B16.new (o := .tup [v]) hp3
          have O17 : TD b g (L2.upd H16 p3 (.tup [v])) (.ref p3) 1 := TD.one B16 hp3 ok
          generalize L2.upd H16 p3 (.tup [v]) = H17 at *
          have k17 := k16.trans K17
          have up10 : KeptB b g H10 H17 := (((((K11.trans K12).trans K13).trans K14).trans K1516)).trans K17
          refine TD.cat B17 (U10.kb up10) O17 (by omega) fun w4 H18 s18 W18 => ?_
          have K18 := KeptB.of (b := b) (g := g) s18
          have k18 := k17.trans K18
          have B18 := B17.same s18
          refine ⟨_, rfl, _, rfl, (j : Int), 1, rfl, rfl, (j : Int) + 1, rfl, TD.cutN B18 (T0.kb k18) fun v5 H19 s19 U19 => ?_⟩
          have K19 := KeptB.of (b := b) (g := g) s19
          have B19 := B18.same s19
          refine TD.cat B19 (W18.kb K19) U19 (by omega) fun w5 H20 s20 W20 => ?_
          exact finT w5 H20 _ _ W20 (by omega) ((k18.trans K19).trans (KeptB.of s20)) (B19.same s20) (by omega)
        · refine ⟨_, rfl, _, rfl, b, g, n + 2, 8, rfl, B2, by omega, by decide, by decide, tabs2, fun D H3 ts cv len kt tabs3 B3 dsD => ?_⟩
          have C3 := TD.ofCv B2 cv len dsD
          refine TD.cat B3 (T2.kt kt) C3 (by omega) fun w2 H4 s4 W4 => ?_
          obtain ⟨d', e1, e2, e3⟩ := W4.de
          exact q w2 d' H4 e1 e2 (by omega) (((KT.ofB k2).trans kt).trans (KT.of (ExtN.of s4))) (tabs3.ext s4) ((B3.same s4).mono (by omega))
      · refine ⟨_, rfl, _, rfl, b, g, n + 2, 8, rfl, B2, by omega, by decide, by decide, tabs2, fun D H3 ts cv len kt tabs3 B3 dsD => ?_⟩
        have C3 := TD.ofCv B2 cv len dsD
        refine TD.cat B3 (T2.kt kt) C3 (by omega) fun w2 H4 s4 W4 => ?_
        obtain ⟨d', e1, e2, e3⟩ := W4.de
        exact q w2 d' H4 e1 e2 (by omega) (((KT.ofB k2).trans kt).trans (KT.of (ExtN.of s4))) (tabs3.ext s4) ((B3.same s4).mono (by omega))
    · refine ⟨_, rfl, _, rfl, b, g, n + 2, 8, rfl, B2, by omega, by decide, by decide, tabs2, fun D H3 ts cv len kt tabs3 B3 dsD => ?_⟩
      have C3 := TD.ofCv B2 cv len dsD
      refine TD.cat B3 (T2.kt kt) C3 (by omega) fun w2 H4 s4 W4 => ?_
      obtain ⟨d', e1, e2, e3⟩ := W4.de
      exact q w2 d' H4 e1 e2 (by omega) (((KT.ofB k2).trans kt).trans (KT.of (ExtN.of s4))) (tabs3.ext s4) ((B3.same s4).mono (by omega))
end
end Nm

/-! The terms of a drawn curve are right ones; right ones are plain data. -/
namespace Nm
open PySem PySem.Spec PyProof.Rows L2 LamX
theorem tmOf_tmD {t : Tm} (h : TmOk t) : tmOf (tmD t) = some t := by
  obtain ⟨⟨c1, c2, c3, _, _⟩, ⟨q1, q2, q3, q4, q5⟩, k1, k2⟩ := h
  have q1 : 1 ≤ t.2.2.2 := q1
  have q2 : t.2.2.2 ≤ 4 := q2
  have q3 : Int.gcd t.2.2.1 t.2.2.2 = 1 := q3
  have q4 : -(4 * t.2.2.2) ≤ t.2.2.1 := q4
  have q5 : t.2.2.1 ≤ 4 * t.2.2.2 := q5
  have k1 : 0 ≤ t.2.1 := k1
  have k2 : t.2.1 ≤ 3 := k2
  have e1 : pairD (.tuple [.int t.1.1, .int t.1.2]) = some t.1 := if_pos ⟨c2, c3⟩
  have e2 : pairD (.tuple [.int t.2.2.1, .int t.2.2.2]) = some t.2.2 := if_pos ⟨by omega, q3⟩
  unfold tmD
  rw [tmOf_at e1 e2]
  refine if_pos ⟨c1, ⟨k1, k2⟩, q2, ?_⟩
  split <;> omega
theorem tmOf_eq {d : PyData} {t : Tm} (h : tmOf d = some t) : d = tmD t := by
  obtain ⟨c, q, rfl, e1, e2, _⟩ := tmOf_some h
  obtain ⟨rfl, _⟩ := pairD_some e1
  obtain ⟨rfl, _⟩ := pairD_some e2
  rfl
open Classical in
theorem go_cv : ∀ {ts : List Tm} {prev : Option Tm} {i : Nat}, (∀ t ∈ ts, TmOk t) → ts.Pairwise (fun p q => ltK p.key q.key) → (∀ p, prev = some p → ∀ t ∈ ts, ltK p.key t.key) → dueGo prev i (ts.map tmD) = none
  | [], _, _, _, _, _ => rfl
  | t :: ts, prev, i, h, pw, hp => by
    show (match tmOf (tmD t) with | none => some i | some t => if okBehind prev t then dueGo (some t) (i + 1) (ts.map tmD) else some i) = none
    rw [tmOf_tmD (h t List.mem_cons_self)]
    show (if okBehind prev t then dueGo (some t) (i + 1) (ts.map tmD) else some i) = none
    rw [if_pos (show okBehind prev t from fun p e => hp p e t List.mem_cons_self)]
    obtain ⟨pw1, pw2⟩ := List.pairwise_cons.mp pw
    exact go_cv (fun t ht => h t (List.mem_cons_of_mem _ ht)) pw2 fun p e t' ht => by
      obtain rfl := Option.some.inj e
      exact pw1 t' ht
theorem due_cv {ts : List Tm} (h : CvOk ts) (l : ts.length ≤ 8) : dueOf (cvD ts) = none := by
  show (if 8 < (ts.map tmD).length then some (-1) else (dueGo none 0 (ts.map tmD)).map fun i : Nat => (i : Int)) = none
  rw [List.length_map, if_neg (by omega), go_cv h.1 h.2 (fun p e => by cases e)]
  rfl
open Classical in
theorem go_inv : ∀ {ds : List PyData} {prev : Option Tm} {i : Nat}, dueGo prev i ds = none → ∃ ts : List Tm, ds = ts.map tmD
  | [], _, _, _ => ⟨[], rfl⟩
  | d :: ds, prev, i, h => by
    have h : (match tmOf d with | none => some i | some t => if okBehind prev t then dueGo (some t) (i + 1) ds else some i) = none := h
    cases e : tmOf d with
    | none => rw [e] at h; cases h
    | some t =>
      rw [e] at h
      have h : (if okBehind prev t then dueGo (some t) (i + 1) ds else some i) = none := h
      by_cases c : okBehind prev t
      · rw [if_pos c] at h
        obtain ⟨ts, rfl⟩ := go_inv h
        exact ⟨t :: ts, by rw [tmOf_eq e]; rfl⟩
      · rw [if_neg c] at h
        cases h
theorem due_inv {d : PyData} (h : dueOf d = none) : ∃ ts : List Tm, d = cvD ts ∧ ts.length ≤ 8 := by
  unfold dueOf at h
  split at h
  · rename_i ds
    by_cases c : 8 < ds.length
    · rw [if_pos c] at h
      cases h
    · rw [if_neg c] at h
      obtain ⟨ts, rfl⟩ := go_inv (Option.map_eq_none_iff.mp h)
      rw [List.length_map] at c
      exact ⟨ts, rfl, by omega⟩
  · cases h
section
variable {S : Addr → Prop} {H : Hp} {K : PySem.W.Frag}
theorem de_tm {x : V} {t : Tm} (h : DE S H x (tmD t)) : Dp K H x (tmD t) := by
  cases h with
  | tup _ h1 r1 =>
  cases r1 with
  | cons a r1 =>
  cases r1 with
  | cons b r1 =>
  cases r1 with
  | cons c r1 =>
  cases r1
  cases b
  cases a with
  | tup _ h2 r2 =>
  cases r2 with
  | cons a1 r2 =>
  cases r2 with
  | cons a2 r2 =>
  cases r2
  cases a1
  cases a2
  cases c with
  | tup _ h3 r3 =>
  cases r3 with
  | cons c1 r3 =>
  cases r3 with
  | cons c2 r3 =>
  cases r3
  cases c1
  cases c2
  exact .tup (SqT.of h1) (.cons (dp_pair h2) (.cons (.int _) (.cons (dp_pair h3) .nil)))
theorem des_tm : ∀ {xs : List V} {ts : List Tm}, DEs S H xs (ts.map tmD) → DpAll K H xs (ts.map tmD)
  | _, [], .nil => .nil
  | _, _ :: _, .cons x r => .cons (de_tm x) (des_tm r)
theorem de_cv {x : V} {ts : List Tm} (h : DE S H x (cvD ts)) : Dp K H x (cvD ts) := by
  cases h with
  | tup _ h1 r1 => exact .tup (SqT.of h1) (des_tm r1)
end
theorem lay_tms : ∀ ts : List Tm, PyData.canLayAll0 (ts.map tmD) = true
  | [] => rfl
  | t :: ts => by
    show (PyData.canLay0 (tmD t) && PyData.canLayAll0 (ts.map tmD)) = true
    rw [lay_tms ts]
    rfl
theorem dep_tms : ∀ ts : List Tm, PyData.depthAll (ts.map tmD) ≤ 2
  | [] => Nat.zero_le _
  | t :: ts => by
    show max (PyData.depth (tmD t)) (PyData.depthAll (ts.map tmD)) ≤ 2
    have e : PyData.depth (tmD t) = 2 := rfl
    have := dep_tms ts
    omega
theorem small_tms : ∀ ts : List Tm, smallDs (ts.map tmD) = true
  | [] => rfl
  | t :: ts => by
    show (smallD (tmD t) && smallDs (ts.map tmD)) = true
    rw [small_tms ts]
    rfl
theorem dep_cv (ts : List Tm) : (cvD ts).depth ≤ 3 := by
  show PyData.depthAll (ts.map tmD) + 1 ≤ 3
  have := dep_tms ts
  omega
theorem sh_cv (ts : List Tm) : SeqAt.shaped (cvD ts) = true := by
  unfold SeqAt.shaped
  have e : PyData.canLay0 (cvD ts) = true := lay_tms ts
  rw [e, Bool.true_and]
  exact decide_eq_true (Nat.le_trans (dep_cv ts) (by decide))
theorem small_cv {ts : List Tm} (h : ts.length ≤ 8) : smallD (cvD ts) = true := by
  show (decide ((ts.map tmD).length ≤ 100000) && smallDs (ts.map tmD)) = true
  rw [small_tms, Bool.and_true, List.length_map]
  exact decide_eq_true (by omega)
def toldD (ts : List Tm) : PyData := .tuple [.str "told", cvD ts]
theorem sh_told (ts : List Tm) : SeqAt.shaped (toldD ts) = true := by
  unfold SeqAt.shaped
  have e2 : PyData.canLay0 (cvD ts) = true := lay_tms ts
  have e : PyData.canLay0 (toldD ts) = true := by
    show (PyData.canLay0 (.str "told") && (PyData.canLay0 (cvD ts) && true)) = true
    rw [e2]
    decide +kernel
  rw [e, Bool.true_and]
  refine decide_eq_true (?_ : PyData.depth (toldD ts) ≤ 64)
  show max 0 (max (cvD ts).depth 0) + 1 ≤ 64
  have := dep_cv ts
  omega
theorem small_told {ts : List Tm} (h : ts.length ≤ 8) : smallD (toldD ts) = true := by
  show (decide (2 ≤ 100000) && (true && (smallD (cvD ts) && true))) = true
  rw [small_cv h]
  rfl
theorem dep_told (ts : List Tm) : (toldD ts).depth < 6 := by
  show max 0 (max (cvD ts).depth 0) + 1 < 6
  have := dep_cv ts
  omega
end Nm

/-! law. -/
namespace Nm
open PySem PySem.Spec PyProof.Rows L2 LamX
abbrev sLaw : Stmt := topS 42
section
variable {P : Program} {w : World} {K : PySem.W.Frag} {mg : Str → Option Value} {base : Heap}
structure LwT (P : Program) (w : World) (K : PySem.W.Frag) (mg : Str → Option Value) (base : Heap) (t Cc C : Addr) where
  fG : Addr
  fdG : FuncData
  fP : Addr
  fdP : FuncData
  fV : Addr
  fdV : FuncData
  fS : Addr
  fdS : FuncData
  fT : Addr
  fdT : FuncData
  fD : Addr
  fdD : FuncData
  fB : Addr
  fdB : FuncData
  FG : FnOk P w K mg base CX0 1 fG fdG ["_law_script"] (spBag K)
  FP : FnOk P w K mg base CX0 1 fP fdP ["_law_bag_here", "_law_many"] spPick
  FV : FnOk P w K mg base CX0 4 fV fdV ["_law_bag_here", "_law_size"] (spCurve (LT t))
  FS : FnOk P w K mg base CX0 6 fS fdS ["_law_thing", "_law_due_here"] (spIs K 6)
  FT : FnOk P w K mg base CX0 8 fT fdT ["_law_terms_here"] spTold
  FD : FnOk P w K mg base CX0 4 fD fdD ["_law_terms_here"] spDue
  FB : FnOk P w K mg base CX0 5 fB fdB ["_law_bag_here", "_law_terms_here"] (spBent (LT t))
  bG : Binds K fdG ["_law_script"] []
  bP : Binds K fdP ["_law_bag_here", "_law_many"] []
  bV : Binds K fdV ["_law_bag_here", "_law_size"] []
  bS : Binds K fdS ["_law_thing", "_law_due_here"] []
  bT : Binds K fdT ["_law_terms_here"] []
  bD : Binds K fdD ["_law_terms_here"] []
  bB : Binds K fdB ["_law_bag_here", "_law_terms_here"] []
  gG : mg "_law_bag" = some (.ref fG)
  gP : mg "_law_pick" = some (.ref fP)
  gV : mg "_law_curve" = some (.ref fV)
  gS : mg "_law_is" = some (.ref fS)
  gT : mg "_law_told" = some (.ref fT)
  gD : mg "_law_due" = some (.ref fD)
  gB : mg "_law_bent" = some (.ref fB)
  kG : PySem.W.keepIn K (.ref fG) = true
  kP : PySem.W.keepIn K (.ref fP) = true
  kV : PySem.W.keepIn K (.ref fV) = true
  kS : PySem.W.keepIn K (.ref fS) = true
  kT : PySem.W.keepIn K (.ref fT) = true
  kD : PySem.W.keepIn K (.ref fD) = true
  kB : PySem.W.keepIn K (.ref fB) = true
  tld : TldT P w K mg base Cc C
  cq : CqK P w K mg base Cc
  cn : CnK K Cc cq.f
  tuple : mg "tuple" = none
  list : mg "list" = none
  range : mg "range" = none
def spLaw (K : PySem.W.Frag) (T : List (Addr × Str)) : Sp := fun vs H Q _ => ∃ (a : Addr) (ns : List Int), vs = [.ref a] ∧ SqL K H a (ns.map V.int) ∧ ns.length ≤ 63 ∧ Tabs T H ∧ ∀ H', Q (.bl true) H'
theorem scLaw : FnScope ["_law_script", "_law_bag_here", "_law_turn", "_law_terms_here", "_law_others", "_law_one", "_law_again", "_law_thing", "_law_change"] ["_law_script"] (defScope sLaw) := ⟨rfl, rfl, rfl, by decide +kernel, rfl, by decide +kernel, by decide +kernel⟩
def Mx : Nat → Nat | 0 => 8 | n + 1 => 3 * Mx n + 10
theorem dp_told {H : Hp} {p : Addr} {x : V} {ts : List Tm} {S : Addr → Prop} (hp : H p = some (.tup [.str "told", x])) (h : DE S H x (cvD ts)) : Dp K H (.ref p) (toldD ts) := .tup (SqT.of hp) (.cons (.str _) (.cons (de_cv h) .nil))
theorem Same.ins {H H1 H2 : Hp} {x dx Cc : Addr} {o : HO} (nx : H x = none) (ndx : H dx = none) (e1 : Same (L2.upd (L2.upd H dx (.own x)) x (.ins Cc dx [])) H1) : Same H (L2.upd H1 x o) := fun c u h => by
  rw [upd_ne (ne_of_none h nx)]
  exact e1 _ _ (by rw [upd_ne (ne_of_none h nx), upd_ne (ne_of_none h ndx)]; exact h)
theorem ok_law {f t Cc C : Addr} {fd : FuncData} (F : Fun K "law" "law" sLaw f fd) (T : LwT P w K mg base t Cc C) : FnOk P w K mg base CX0 9 f fd ["_law_script"] (spLaw K (LT t)) := by
  refine F.ok scLaw (fun vs H Q E h => ?_) (fun cdv A outer s H vs Q E hr h => ?_)
  · obtain ⟨a, ns, rfl, _⟩ := h
    rfl
  · obtain ⟨a, ns, rfl, hS, hlen, hT, q⟩ := h
    have hr7 : Room 7 _ := hr.mono (by decide)
    have hr6 : Room 6 _ := hr.mono (by decide)
    have hr5 : Room 5 _ := hr.mono (by decide)
    have hr4 : Room 4 _ := hr.mono (by decide)
    have hr2 : Room 2 _ := hr.mono (by decide)
    have hr1 : Room 1 _ := hr.mono (by decide)
    have Mk1 := T.tld.mkI
    refine ⟨_, pss_cons (ps_set (i := 1) scLaw.nd rfl (.inl rfl) (pe_call T.FG hr1 (by rfl) T.gG T.kG T.bG .nil pass0 (pa_cons (pv 0) pa_nil)))
      (pss_cons (ps_for PassesOwn.never rfl (pi_range1 rfl T.range (pa_cons pe_int pa_nil)) (pg_name (i := 2) scLaw.nd rfl (Or.inl rfl))
        (pss_cons (ps_par (i := 3) (j := 4) (by rfl) scLaw.nd rfl rfl (by decide) rfl rfl (pa_cons (pe_call T.FV hr4 (by rfl) T.gV T.kV T.bV .nil pass0 (pa_cons (pv 1) (pa_cons pe_int pa_nil))) (pa_cons (pe_call T.FV hr4 (by rfl) T.gV T.kV T.bV .nil pass0 (pa_cons (pv 1) (pa_cons pe_int pa_nil))) pa_nil)) (by rfl))
        (pss_cons (ps_if (pt_not (pt_val (pe_call T.FS hr6 (by rfl) T.gS T.kS T.bS .nil pass0 (pa_cons (pe_call T.FT hr (by rfl) T.gT T.kT T.bT .nil pass0 (pa_cons (pv 3) pa_nil)) (pa_cons (pe_tup (pa_cons pe_str (pa_cons (pv 3) pa_nil))) pa_nil))))) (pss_one (ps_ret pe_bl)) pss_nil)
        (pss_cons (ps_set (i := 5) scLaw.nd rfl (.inl rfl) (pe_make Mk1 T.tld.FI hr7 (by rfl) T.tld.cv.gC T.tld.bI .nil (passes_call L2.takes0 (E := E0) (fun _ _ _ _ h => h)) (pa_cons (pv 3) pa_nil)))
        (pss_cons (ps_if (PW.pt (pw_or (pt_cmpR (op_cvNe T.cq T.cn hr2) (pv 5) (pe_make Mk1 T.tld.FI hr7 (by rfl) T.tld.cv.gC T.tld.bI .nil (passes_call L2.takes0 (E := E0) (fun _ _ _ _ h => h)) (pa_cons (pe_callTy call_tuple_of (by rfl) T.tuple (by decide +kernel) (pa_cons (pe_callTy call_list_of (by rfl) T.list (by decide +kernel) (pa_cons (pv 3) pa_nil)) pa_nil)) pa_nil)) (nomark _))
            (pw_or (pt_cmpR op_ne (pe_cmpR (op_cvEq T.cq hr1) (pv 5) (pe_make Mk1 T.tld.FI hr7 (by rfl) T.tld.cv.gC T.tld.bI .nil (passes_call L2.takes0 (E := E0) (fun _ _ _ _ h => h)) (pa_cons (pv 4) pa_nil)) (nomark _)) (pe_cmpR (op_eqD hr.units) (pv 3) (pv 4) (nomark _)) (nomark _))
            (pw_or (pt_cmpR (op_cvEq T.cq hr1) (pv 5) (pv 3) (nomark _)) (pw_or1 (pt_cmpR (op_cvEq T.cq hr1) (pv 5) pe_int (nomark _))))))) (pss_one (ps_ret pe_bl)) pss_nil)
        (pss_one (ps_for PassesOwn.never rfl (pi_range1 rfl T.range (pa_cons pe_int pa_nil)) (pg_name (i := 6) scLaw.nd rfl (Or.inl rfl))
          (pss_cons (ps_set (i := 7) scLaw.nd rfl (.inl rfl) (pv 3))
          (pss_cons (ps_for PassesOwn.never rfl (pi_range1 rfl T.range (pa_cons (pe_op op_add pe_int (pe_call T.FP hr1 (by rfl) T.gP T.kP T.bP .nil pass0 (pa_cons (pv 1) (pa_cons pe_int pa_nil)))) pa_nil)) (pg_name (i := 8) scLaw.nd rfl (Or.inl rfl))
            (pss_one (ps_set (i := 7) scLaw.nd rfl (.inl rfl) (pe_call T.FB hr5 (by rfl) T.gB T.kB T.bB .nil pass0 (pa_cons (pv 1) (pa_cons (pv 7) pa_nil))))))
          (pss_one (ps_if (pt_not (pt_val (pe_call T.FS hr6 (by rfl) T.gS T.kS T.bS .nil pass0 (pa_cons (pe_call T.FT hr (by rfl) T.gT T.kT T.bT .nil pass0 (pa_cons (pv 7) pa_nil)) (pa_cons (pe_call T.FD hr4 (by rfl) T.gD T.kD T.bD .nil pass0 (pa_cons (pv 7) pa_nil)) pa_nil))))) (pss_one (ps_ret pe_bl)) pss_nil)))))))))))
      (pss_one (ps_ret pe_bl))), ?_⟩
    refine ⟨_, rfl, a, ns, rfl, hS, hlen, fun b g H1 sm1 _ _ B1 => ?_⟩
    refine ⟨4, rfl, by decide, by decide, for_range (n := 4) (fun i σ H2 => ∃ (y2 y3 y4 y5 y6 y7 y8 : Option V), σ = [some (.ref a), some (.ref b), y2, y3, y4, y5, y6, y7, y8] ∧ Tabs (LT t) H2 ∧ BagAt H2 b g (1 + 100000 * i)) ⟨none, none, none, none, none, none, none, rfl, hT.ext sm1, B1⟩ ?_ ?_⟩
    · rintro i σ H2 hi ⟨y2, y3, y4, y5, y6, y7, y8, rfl, tab2, B2⟩
      refine ⟨_, rfl, b, g, _, 8, rfl, B2, by omega, by decide, by decide, tab2, fun D1 H3 ts cv1 len1 kt3 tab3 B3 ds1 => ?_⟩
      refine ⟨_, rfl, b, g, _, 2, rfl, B3, by omega, by decide, by decide, tab3, fun D2 H4 us cv2 len2 kt4 tab4 B4 ds2 => ?_⟩
      refine ⟨_, _, rfl, ?_⟩
      have l1 : ts.length ≤ 8 := by omega
      have l2 : us.length ≤ 8 := by omega
      have X4 : DE (DB b g) H4 (.ref D1) (cvD ts) := (DE.ofNew B2 (DS.toE ds1)).kt kt4
      have Z4 : DE (DB b g) H4 (.ref D2) (cvD us) := DE.ofNew B3 (DS.toE ds2)
      have due1 := due_cv cv1 l1
      have due2 := due_cv cv2 l2
      -- is(told(terms), ("told", terms))
      refine ⟨_, rfl, .ref D1, cvD ts, DB b g, rfl, X4, (fun i e => by rw [due1] at e; cases e), fun _ p1 H5 s5 np1 hp1 => ?_⟩
      refine ⟨_, rfl, (by show 2 ≤ sizeLine; decide), fun p2 np2 => ?_⟩
      have s6 : Same H5 (L2.upd H5 p2 (.tup [.str "told", .ref D1])) := same_upd np2
      have hp2 : L2.upd H5 p2 (.tup [.str "told", .ref D1]) p2 = some (.tup [.str "told", .ref D1]) := upd_same
      generalize L2.upd H5 p2 (.tup [.str "told", .ref D1]) = H6 at *
      have X6 : DE (DB b g) H6 (.ref D1) (cvD ts) := (X4.same s5).same s6
      refine ⟨_, _, rfl, .inl ⟨toldD ts, toldD ts, dp_told (s6 _ _ hp1) X6, dp_told hp2 X6, sh_told ts, sh_told ts, small_told l1, dep_told ts, fun H7 s7 => ⟨_, rfl, ?_⟩⟩⟩
      rw [isD_refl (sh_told ts)]
      refine iteF ?_
      have X7 := X6.same s7
      have Z7 : DE (DB b g) H7 (.ref D2) (cvD us) := ((Z4.same s5).same s6).same s7
      have s47 : Same H4 H7 := (s5.trans s6).trans s7
      have B7 := B4.same s47
      have tab7 := tab4.ext s47
      clear s5 s6 s7 hp1 hp2 X6 np1 np2 X4 Z4
      -- one = Curve(terms)
      refine ⟨_, rfl, fun x dx nx ndx nexd => ⟨x, dx, .ref D1, cvD ts, DB b g, rfl, upd_same, DE.keep (fun c o sc _ h => ⟨sc, by rw [upd_ne (ne_of_none h nx), upd_ne (ne_of_none h ndx)]; exact h⟩) X7, fun _ H8 s8 => ⟨rfl, ?_⟩, fun i e => by rw [due1] at e; cases e⟩⟩
      have s9 : Same H7 (L2.upd H8 x (.ins Cc dx [(PySem.Str.ofString "terms", .ref D1)])) := Nm.Same.ins (H2 := H7) nx ndx s8
      have hx9 : CvAt Cc (L2.upd H8 x (.ins Cc dx [(PySem.Str.ofString "terms", .ref D1)])) x (.ref D1) := ⟨dx, upd_same⟩
      generalize L2.upd H8 x (.ins Cc dx [(PySem.Str.ofString "terms", .ref D1)]) = H9 at *
      have X9 := X7.same s9
      have Z9 := Z7.same s9
      have B9 := B7.same s9
      have tab9 := tab7.ext s9
      have cvS : ∀ {G G' : Hp} {y : Addr} {v : V}, Same G G' → CvAt Cc G y v → CvAt Cc G' y v := fun {G G' y v} s ⟨d, h⟩ => ⟨d, s _ _ h⟩
      clear s8 X7 Z7 B7 tab7 s9
      have eqv1 : PyData.eqv (cvD ts) (cvD ts) = true := SeqAt.eqv_refl _ (lay_tms ts)
      -- one != Curve(tuple(list(terms)))
      obtain ⟨xs, hD1, hxs⟩ : ∃ xs, H9 D1 = some (.tup xs) ∧ DEs (DB b g) H9 xs (ts.map tmD) := by
        have y : DE (DB b g) H9 (.ref D1) (.tuple (ts.map tmD)) := X9
        cases y with
        | tup _ h r => exact ⟨_, h, r⟩
      refine ⟨_, rfl, _, rfl, D1, xs, rfl, .inr (SqT.of hD1), fun l nl => ?_⟩
      have s10 : Same H9 (L2.upd H9 l (.lst xs)) := same_upd nl
      have hl10 : L2.upd H9 l (.lst xs) l = some (.lst xs) := upd_same
      generalize L2.upd H9 l (.lst xs) = H10 at *
      refine ⟨l, xs, rfl, .inl ⟨SqL.of hl10, fun p np => ?_⟩⟩
      have s11 : Same H10 (L2.upd H10 p (.tup xs)) := same_upd np
      obtain ⟨off1, off2⟩ := (B9.same s10).off (H2 := H) np
      have P11 : DE (DB b g) (L2.upd H10 p (.tup xs)) (.ref p) (cvD ts) := .tup ⟨off1, off2⟩ upd_same ((hxs.same s10).same s11)
      generalize L2.upd H10 p (.tup xs) = H11 at *
      have s911 := s10.trans s11
      refine fun x2 dx2 nx2 ndx2 _ => ⟨x2, dx2, .ref p, cvD ts, DB b g, rfl, upd_same, DE.keep (fun c o sc _ h => ⟨sc, by rw [upd_ne (ne_of_none h nx2), upd_ne (ne_of_none h ndx2)]; exact h⟩) P11, fun _ H12 s12 => ⟨rfl, ?_⟩, fun i e => by rw [due1] at e; cases e⟩
      have s13 : Same H11 (L2.upd H12 x2 (.ins Cc dx2 [(PySem.Str.ofString "terms", .ref p)])) := Nm.Same.ins (H2 := H11) nx2 ndx2 s12
      have hx13 : CvAt Cc (L2.upd H12 x2 (.ins Cc dx2 [(PySem.Str.ofString "terms", .ref p)])) x2 (.ref p) := ⟨dx2, upd_same⟩
      generalize L2.upd H12 x2 (.ins Cc dx2 [(PySem.Str.ofString "terms", .ref p)]) = H13 at *
      have s913 := s911.trans s13
      refine ⟨x, x2, .ref D1, .ref p, cvD ts, cvD ts, rfl, rfl, cvS s913 hx9, hx13, de_cv (X9.same s913), de_cv (P11.same s13), sh_cv ts, sh_cv ts, _, rfl, ?_⟩
      rw [eqv1]
      refine iteF ?_
      clear s12 hl10 P11
      -- (one == Curve(others)) != (terms == others)
      have Z13 := Z9.same s913
      refine ⟨_, rfl, _, rfl, fun x3 dx3 nx3 ndx3 _ => ⟨x3, dx3, .ref D2, cvD us, DB b g, rfl, upd_same, DE.keep (fun c o sc _ h => ⟨sc, by rw [upd_ne (ne_of_none h nx3), upd_ne (ne_of_none h ndx3)]; exact h⟩) Z13, fun _ H14 s14 => ⟨rfl, ?_⟩, fun i e => by rw [due2] at e; cases e⟩⟩
      have s15 : Same H13 (L2.upd H14 x3 (.ins Cc dx3 [(PySem.Str.ofString "terms", .ref D2)])) := Nm.Same.ins (H2 := H13) nx3 ndx3 s14
      have hx15 : CvAt Cc (L2.upd H14 x3 (.ins Cc dx3 [(PySem.Str.ofString "terms", .ref D2)])) x3 (.ref D2) := ⟨dx3, upd_same⟩
      generalize L2.upd H14 x3 (.ins Cc dx3 [(PySem.Str.ofString "terms", .ref D2)]) = H15 at *
      have s915 := s913.trans s15
      have X15 := X9.same s915
      have Z15 := Z13.same s15
      have hc15 := cvS s915 hx9
      refine ⟨x, .ref D1, rfl, hc15, .inl ⟨x3, .ref D2, cvD ts, cvD us, rfl, hx15, de_cv X15, de_cv Z15, sh_cv ts, sh_cv us, ?_⟩⟩
      refine ⟨_, rfl, _, rfl, cvD ts, cvD us, de_cv X15, de_cv Z15, sh_cv ts, sh_cv us, rfl, _, rfl, ?_⟩
      have eb : (!decide (V.bl (PyData.eqv (cvD ts) (cvD us)) = V.bl (PyData.eqv (cvD ts) (cvD us)))) = false := by simp
      rw [eb]
      refine iteF ?_
      -- one == terms, one == 0
      refine ⟨_, rfl, _, rfl, x, .ref D1, rfl, hc15, .inr ⟨cvD ts, DB b g, X15, _, rfl, ?_⟩⟩
      refine iteF ?_
      refine ⟨_, rfl, x, .ref D1, rfl, hc15, .inr ⟨.int 0, DB b g, .int 0, _, rfl, ?_⟩⟩
      refine iteF ?_
      have B15 := B9.same s915
      have tab15 := tab9.ext s915
      clear s14 hx15 hc15 Z13 Z15 s15 s13 hx13 s911 s913 s915
      refine ⟨6, rfl, by decide, by decide, for_range (n := 6) (fun k σ H2 => ∃ (y6 y7 y8 : Option V), σ = [some (.ref a), some (.ref b), some (.int (0 + i)), some (.ref D1), some (.ref D2), some (.ref x), y6, y7, y8] ∧ Tabs (LT t) H2 ∧ BagAt H2 b g (1 + 100000 * i + 1000 + 5000 * k) ∧ DE (DB b g) H2 (.ref D1) (cvD ts))
        ⟨_, _, _, rfl, tab15, B15.mono (by omega), X15⟩ ?_ ?_⟩
      · rintro k σ G hk ⟨y6, y7, y8, rfl, tabG, BG, XG⟩
        refine ⟨_, rfl, ?_⟩
        refine ⟨_, rfl, b, g, _, 3, rfl, BG, by omega, by decide, by decide +kernel, fun r G1 r0 r1 BG1 KG1 => ?_⟩
        refine ⟨1, r, rfl, rfl, 1 + r, rfl, by omega, by omega, for_range (n := (1 + r).toNat) (fun c σ H2 => ∃ (y8 : Option V) (v : V) (d : PyData), σ = [some (.ref a), some (.ref b), some (.int (0 + i)), some (.ref D1), some (.ref D2), some (.ref x), some (.int (0 + k)), some v, y8] ∧ Tabs (LT t) H2 ∧ BagAt H2 b g (1 + 100000 * i + 1000 + 5000 * k + 1 + 1000 * c) ∧ DE (DB b g) H2 (.ref D1) (cvD ts) ∧
          DE (DB b g) H2 v d ∧ bdD d = true ∧ wdD d ≤ Mx c)
          ⟨_, .ref D1, cvD ts, rfl, Nm.Tabs.keptB tabG KG1 BG, BG1, XG.kt (KT.ofB KG1), XG.kt (KT.ofB KG1), bdT_of (fun d hd => ?_), ?_⟩ ?_ ?_⟩
        · obtain ⟨t', ht', rfl⟩ := List.mem_map.mp hd
          exact tm_bd (cv1.1 t' ht')
        · show (ts.map tmD).length ≤ 8
          rw [List.length_map]
          exact l1
        · rintro c σ G2 hc ⟨y8, v, d, rfl, tab2', BG2, XG2, rd, bd, wd⟩
          have hc3 : c < 3 := by omega
          have hM : Mx c ≤ 400 := by
            have : c = 0 ∨ c = 1 ∨ c = 2 := by omega
            rcases this with rfl | rfl | rfl <;> decide
          refine ⟨_, rfl, _, rfl, b, g, _, Mx c, v, d, rfl, BG2, by omega, rd, bd, wd, hM, tab2', fun v' d' G3 rd' bd' wd' kt' tab3' BG3 => ?_⟩
          refine ⟨_, v', d', rfl, tab3', BG3.mono (by omega), XG2.kt kt', rd', bd', wd'⟩
        · rintro σ G2 ⟨y8, v, d, rfl, tab2', BG2, XG2, rd, bd, wd⟩
          have hc3 : (1 + r).toNat ≤ 3 := by omega
          have next : ∀ G3, Same G2 G3 → Tabs (LT t) G3 ∧ BagAt G3 b g (1 + 100000 * i + 1000 + 5000 * (k + 1)) ∧ DE (DB b g) G3 (.ref D1) (cvD ts) := fun G3 s => ⟨tab2'.ext s, (BG2.same s).mono (by omega), XG2.same s⟩
          cases e : dueOf d with
          | some j =>
            refine ⟨_, rfl, v, d, DB b g, rfl, rd, (fun j' e' G3 s3 => ?_), fun e' => by rw [e] at e'; cases e'⟩
            rw [e] at e'
            obtain rfl := Option.some.inj e'
            refine ⟨_, rfl, v, d, DB b g, rfl, DE.same s3 rd, bd, (fun j' e' G4 s4 => ?_), fun e' => by rw [e] at e'; cases e'⟩
            rw [e] at e'
            obtain rfl := Option.some.inj e'
            have sh : SeqAt.shaped (.int j) = true := rfl
            refine ⟨_, _, rfl, .inl ⟨.int j, .int j, .int j, .int j, sh, sh, rfl, show (0 : Nat) < 6 by decide, fun G5 s5 => ⟨_, rfl, ?_⟩⟩⟩
            rw [isD_refl sh]
            refine iteF ?_
            obtain ⟨n1, n2, n3⟩ := next G5 ((s3.trans s4).trans s5)
            exact ⟨_, _, _, rfl, n1, n2, n3⟩
          | none =>
            obtain ⟨vs, rfl, lv⟩ := due_inv e
            refine ⟨_, rfl, v, cvD vs, DB b g, rfl, rd, (fun j' e' => by rw [e] at e'; cases e'), fun _ p3 G3 s3 np3 hp3 => ?_⟩
            refine ⟨_, rfl, v, cvD vs, DB b g, rfl, DE.same s3 rd, bd, (fun j' e' => by rw [e] at e'; cases e'), fun _ p4 G4 s4 np4 hp4 => ?_⟩
            have r4 := (DE.same s3 rd).same s4
            refine ⟨_, _, rfl, .inl ⟨toldD vs, toldD vs, dp_told (s4 _ _ hp3) r4, dp_told hp4 r4, sh_told vs, sh_told vs, small_told lv, dep_told vs, fun G5 s5 => ⟨_, rfl, ?_⟩⟩⟩
            rw [isD_refl (sh_told vs)]
            refine iteF ?_
            obtain ⟨n1, n2, n3⟩ := next G5 ((s3.trans s4).trans s5)
            exact ⟨_, _, _, rfl, n1, n2, n3⟩
      · rintro σ G ⟨y6, y7, y8, rfl, tabG, BG, XG⟩
        exact ⟨_, _, _, _, _, _, _, rfl, tabG, BG.mono (by omega)⟩
    · rintro σ H2 ⟨y2, y3, y4, y5, y6, y7, y8, rfl, tab2, B2⟩
      exact q _
end
end Nm

/-! The end: what the top has written, and the head. -/
namespace Nm
open PySem PySem.Spec PyProof.Rows L2 LamX
abbrev vEr : List Value := [.type "ValueError", .type "Exception", .type "BaseException", .type "object"]
def xtB (K : PySem.W.Frag) (C : Addr) : Bool :=
  PySem.W.isClsIn K C && (decide (PySem.W.findIn K (.ref C) "__getattribute__" = some (some (.builtin "BaseException.__getattribute__"))) && (decide (PySem.W.findIn K (.ref C) "__getattr__" = some none) &&
  (decide (PySem.W.subIn K (.ref C) (.type "BaseException") = some true) && (decide (PySem.W.findIn K (.ref C) "__class__" = some (some (.builtin "object.__class__"))) &&
  (decide (PySem.W.specialIn K (.builtin "object.__class__") "__get__" = some (some (.builtin "getset_descriptor.__get__"))) && (decide (PySem.W.takesIn K (.builtin "object.__class__") = some true) &&
  (decide (PySem.W.mroIn K C (.type "object") = some true) && (PySem.W.hasDictIn K C && PySem.W.keepIn K (.ref C)))))))))
theorem xtB_ok {K : PySem.W.Frag} {C : Addr} (h : xtB K C = true) : XT K C := by
  obtain ⟨h1, h⟩ := Bool.and_eq_true_iff.mp h
  obtain ⟨h2, h⟩ := Bool.and_eq_true_iff.mp h
  obtain ⟨h3, h⟩ := Bool.and_eq_true_iff.mp h
  obtain ⟨h4, h⟩ := Bool.and_eq_true_iff.mp h
  obtain ⟨h5, h⟩ := Bool.and_eq_true_iff.mp h
  obtain ⟨h6, h⟩ := Bool.and_eq_true_iff.mp h
  obtain ⟨h7, h⟩ := Bool.and_eq_true_iff.mp h
  obtain ⟨h8, h⟩ := Bool.and_eq_true_iff.mp h
  obtain ⟨h9, h10⟩ := Bool.and_eq_true_iff.mp h
  exact ⟨h1, of_decide_eq_true h2, of_decide_eq_true h3, of_decide_eq_true h4, of_decide_eq_true h5, of_decide_eq_true h6, of_decide_eq_true h7, of_decide_eq_true h8, h9, h10⟩
/-- what is asked of a class with a field, as Bools -/
def clsB (K : PySem.W.Frag) (C : Addr) : Bool := match K.lookup C with
  | some ⟨.type "type", _, .cls cd, sl⟩ => (match cd.mro, sl.toList with
    | .ref C' :: bm, [_, _, _, _, some (.builtin n), _] => C' == C && (n == "ValueError.__new__" && (!cd.hasDel && (cd.hasDict && PySem.HandSPX.refsVE bm)))
    | _, _ => false)
  | _ => false
theorem clsB_ok {K : PySem.W.Frag} {C : Addr} (h : clsB K C = true) : ∃ nm q N bs bm sn sub ab col dd k0 k1 k2 k3 k5, K.lookup C = some (excClassObj nm q C N bs bm true sn sub ab col dd k0 k1 k2 k3 k5 "ValueError.__new__") ∧ PySem.HandSPX.refsVE bm = true := by
  unfold clsB at h
  split at h
  · rename_i dd cd sl ho
    split at h
    · rename_i C' bm k0 k1 k2 k3 n k5 hm hs
      simp only [Bool.and_eq_true, beq_iff_eq, Bool.not_eq_true'] at h
      obtain ⟨rfl, rfl, hdel, hdct, hr⟩ := h
      obtain ⟨nm, bs, mro, ns, qn, hd, sn, sub, ab, col, del⟩ := cd
      dsimp only at hm hdel hdct
      subst hm hdel hdct
      have hsl : sl = #[k0, k1, k2, k3, some (.builtin "ValueError.__new__"), k5] := by
        obtain ⟨l⟩ := sl
        simp only at hs
        rw [hs]
      subst hsl
      exact ⟨nm, qn, ns, bs, bm, sn, sub, ab, col, dd, k0, k1, k2, k3, k5, ho, hr⟩
    · cases h
  · cases h
def xiB (K : PySem.W.Frag) (C : Addr) (f : Str) : Bool :=
  clsB K C && (PySem.W.excInitIn K C vEr "ValueError.__new__" && (decide (PySem.W.findIn K (.ref C) "__setattr__" = some (some (.builtin "object.__setattr__"))) && (decide (PySem.W.findIn K (.ref C) f = some none) &&
  (decide (PySem.W.ks_superIn K C C "__init__" = some (some (.builtin "ValueError.__init__"))) && (decide (PySem.W.subIn K (.ref C) (.type "ValueError") = some true) && (decide (PySem.W.mroIn K C (.ref C) = some true) && xtB K C))))))
theorem xi_mk {K : PySem.W.Frag} {st : Stmt} {qual f txt file : Str} {C fI cc cda : Addr} {oc kV doc pm ct oc2 oc3 : Value} {od od2 od3 an : Option Addr} {osl os2 os3 : Array (Option Value)} {vs : Array Value} {tf : Tok} (sh : IShape st f txt) (nf : FName f)
    (iC : PySem.W.findIn K (.ref C) "__init__" = some (some (.ref fI))) (l1 : K.lookup fI = some ⟨oc, od, .func (PySem.W.ksFn "__init__" qual (defArgs st) (defBody st) (defScope st) .none kV doc pm an (.ref cda) ct cc), osl⟩)
    (c1 : PySem.W.codeIn K (.ref cda) qual = true) (tI : PySem.W.typeIn K (.ref fI) = some (.type "function")) (l2 : K.lookup cc = some ⟨oc2, od2, .cell (some (.ref C)), os2⟩) (l3 : K.lookup cda = some ⟨oc3, od3, .fields vs, os3⟩) (v2 : vs[2]? = some (.str file tf))
    (opq : PySem.W.nsIn K cStatics "thirdparty.any" = some none) (h : xiB K C f = true) : XI K st qual C fI cc cda f txt file := by
  obtain ⟨h1, h⟩ := Bool.and_eq_true_iff.mp h
  obtain ⟨h2, h⟩ := Bool.and_eq_true_iff.mp h
  obtain ⟨h3, h⟩ := Bool.and_eq_true_iff.mp h
  obtain ⟨h4, h⟩ := Bool.and_eq_true_iff.mp h
  obtain ⟨h5, h⟩ := Bool.and_eq_true_iff.mp h
  obtain ⟨h6, h⟩ := Bool.and_eq_true_iff.mp h
  obtain ⟨h7, h8⟩ := Bool.and_eq_true_iff.mp h
  exact ⟨xtB_ok h8, sh, nf, clsB_ok h1, h2, of_decide_eq_true h3, of_decide_eq_true h4, iC, tI, of_decide_eq_true h5, of_decide_eq_true h6, of_decide_eq_true h7, opq, ⟨_, _, _, l2⟩, ⟨_, _, _, _, _, l3, v2⟩, ⟨_, _, _, _, _, _, _, _, l1, c1⟩⟩
theorem def_mk {K : PySem.W.Frag} {x qual : Str} {st : Stmt} {f : Addr} {oc : Value} {od an : Option Addr} {osl : Array (Option Value)} {kV doc pm cdv ct : Value} (l : K.lookup f = some ⟨oc, od, .func (PySem.W.fnOf x qual (defArgs st) (defBody st) (defScope st) .none kV doc pm an cdv ct), osl⟩)
    (c : PySem.W.codeIn K cdv qual = true) (k : PySem.W.keepIn K (.ref f) = true) : ∃ fd, Fun K x qual st f fd := ⟨_, fun_mk l c k⟩
theorem fn_index : FName "index" := ⟨by decide +kernel, by decide +kernel, by decide +kernel, by decide +kernel, by decide +kernel, fun _ _ _ _ _ _ _ _ _ _ _ _ _ => rfl⟩
theorem sh_bad : IShape (inClass (topS 3) 0) "index" "these are no terms of a curve" := ⟨_, _, _, _, _, _, _, _, _, _, _, _, _, rfl, rfl, rfl, ⟨_, fun _ => rfl⟩⟩
theorem defc_mk {K : PySem.W.Frag} {x qual : Str} {st : Stmt} {f c : Addr} {oc : Value} {od an : Option Addr} {osl : Array (Option Value)} {kV doc pm ct : Value} (l : K.lookup f = some ⟨oc, od, .func (PySem.W.fnOf x qual (defArgs st) (defBody st) (defScope st) .none kV doc pm an (.ref c) ct), osl⟩)
    (h : PySem.W.codeIn K (.ref c) qual = true) (k : PySem.W.keepIn K (.ref f) = true) : ∃ fd, FunC K x qual st f fd c := ⟨_, ⟨⟨oc, od, kV, doc, pm, an, ct, osl, rfl, l, h⟩, k⟩⟩
def tyNs : List String := ["NoneType", "bool", "int", "str", "list", "tuple", "dict"]
theorem tyN_mem (d : PyData) : tyN d ∈ tyNs := by cases d <;> simp [tyN, tyNs]
/-- what is asked of Curve at C, its __init__ at fI, its __eq__ at fE -/
def curveB (K : PySem.W.Frag) (C fI fE : Addr) : Bool :=
  PySem.W.plainGet K C Str.empty && (PySem.W.hasDictIn K C && (PySem.W.plainOver K C && (decide (PySem.W.findIn K (.ref C) "__setattr__" = some (some (.builtin "object.__setattr__"))) && (decide (PySem.W.findIn K (.ref C) "terms" = some none) &&
  (decide (PySem.W.findIn K (.ref C) "__class__" = some (some (.builtin "object.__class__"))) && (decide (PySem.W.specialIn K (.builtin "object.__class__") "__get__" = some (some (.builtin "getset_descriptor.__get__"))) && (decide (PySem.W.takesIn K (.builtin "object.__class__") = some true) &&
  (decide (PySem.W.mroIn K C (.type "object") = some true) && (decide (PySem.W.kitOne K (.ref C) (.ref C) = some true) && (tyNs.all (fun n => decide (PySem.W.kitOne K (.type n) (.ref C) = some false)) && (PySem.W.makesIn K C &&
  (decide (PySem.W.findIn K (.ref C) "__init__" = some (some (.ref fI))) && (PySem.W.isFn K (.ref fI) && (PySem.W.keepIn K (.ref C) && (decide (PySem.W.findIn K (.ref C) "__eq__" = some (some (.ref fE))) && (PySem.W.isFn K (.ref fE) &&
  tyNs.all (fun n => PySem.W.notFirst K C (.type n))))))))))))))))))
/-- what is asked of its != -/
def neB (K : PySem.W.Frag) (C fE : Addr) : Bool := match K.lookup C with
  | some ⟨.type "type", _, .cls cd, sl⟩ => (match cd.mro, sl.toList with
    | [.ref C', .type "object"], [_, _, _, _, some (.builtin _), _] => C' == C && (!cd.hasDel && (match K.lookup cd.ns with
      | some oN => (match oN.data with
        | .dict es _ => es.all (fun e => match e.key with | .str _ _ => true | _ => false) && (decide (nsFind es "__eq__" = some (.ref fE)) && decide (nsFind es "__ne__" = none))
        | _ => false)
      | none => false))
    | _, _ => false)
  | _ => false
def fnB (K : PySem.W.Frag) (f : Addr) : Bool := match K.lookup f with
  | some o => decide (o.cls = .type "function")
  | none => false
theorem ne_mk {K : PySem.W.Frag} {C fE : Addr} (h : neB K C fE = true) (hf : fnB K fE = true) : CnK K C fE := by
  refine ⟨?_, ?_⟩
  · unfold neB at h
    split at h
    · rename_i dd cd sl ho
      split at h
      · rename_i C' k0 k1 k2 k3 n k5 hm hs
        simp only [Bool.and_eq_true, beq_iff_eq, Bool.not_eq_true'] at h
        obtain ⟨rfl, hdel, h⟩ := h
        split at h
        · rename_i oN hN
          split at h
          · rename_i es ep hd
            simp only [Bool.and_eq_true, decide_eq_true_eq] at h
            obtain ⟨h1, h2, h3⟩ := h
            obtain ⟨nm, bs, mro, ns, qn, hdct, sn, sub, ab, col, del⟩ := cd
            dsimp only at hm hdel hN
            subst hm hdel
            have hsl : sl = #[k0, k1, k2, k3, some (.builtin n), k5] := by
              obtain ⟨l⟩ := sl
              simp only at hs
              rw [hs]
            subst hsl
            refine ⟨nm, qn, ns, bs, hdct, sn, sub, ab, col, dd, k0, k1, k2, k3, k5, n, oN, es, ep, ho, hN, hd, fun e he => ?_, h2, h3⟩
            have z := (Array.all_eq_true_iff_forall_mem.mp h1) e he
            split at z
            · rename_i x t hk
              exact ⟨x, t, hk⟩
            · cases z
          · cases h
        · cases h
      · cases h
    · cases h
  · unfold fnB at hf
    split at hf
    · rename_i o ho
      exact ⟨o, ho, of_decide_eq_true hf⟩
    · cases hf
/-- what is asked of BadCurve besides -/
def badB (K : PySem.W.Frag) (C ce : Addr) : Bool :=
  decide (PySem.W.typeIn K (.ref C) = some (.type "type")) && (decide (PySem.W.exmOne K (.ref C) (.ref C) = some true) && (decide (PySem.W.kitOne K (.ref C) (.ref ce) = some true) && (decide (PySem.W.kitOne K (.ref C) (.type "ValueError") = some true) && decide (PySem.W.findIn K (.ref C) "index" = some none))))
theorem all_mk {l : PySem.W.OpenLaw} {w : World} {K : PySem.W.Frag} {h : Heap} {mg : Str → Option Value} {fa fIn fNu fFr fLe fCk fTe fRa fSb fB fP fS fI fIi fDp fCo fFc fLs fO fT fIf fIt fIb fQ fC fV fD fTd fOd fBt fL ce bad xa1 xa2 xa3 crv fCi fCq cO tO nil : Addr} {od : Option Addr} {os : Array (Option Value)} {nn : Nat} {q1 q2 m1 m2 m3 m4 : Tok} {file : Str} (X : K.In h) (G : h.Ns mainGlobals mg) (hfa : mg "law" = some (.ref fa)) (pf : PF l.prog file)
    (ae : PySem.W.nsIn K mainGlobals "CurveError" = some (some (.ref ce))) (ab : PySem.W.nsIn K mainGlobals "BadCurve" = some (some (.ref bad))) (ac : PySem.W.nsIn K mainGlobals "Curve" = some (some (.ref crv)))
    (an : PySem.W.nsIn K mainGlobals "NIL" = some (some (.ref nil))) (ln : K.lookup nil = some ⟨.type "tuple", od, .seq #[.int 0 q1, .int 1 q2] nn, os⟩) (ag : PySem.W.nsIn K mainGlobals "gcd" = some (some (.builtin "math.gcd")))
    (a1 : PySem.W.nsIn K mainGlobals "MOST_TERMS" = some (some (.int 8 m1))) (a2 : PySem.W.nsIn K mainGlobals "MOST_POWER" = some (some (.int 3 m2))) (a3 : PySem.W.nsIn K mainGlobals "MOST_RATE" = some (some (.int 4 m3))) (a4 : PySem.W.nsIn K mainGlobals "MOST_BOTTOM" = some (some (.int 4 m4)))
    (n_int : PySem.W.nsIn K mainGlobals "int" = some none)
    (n_len : PySem.W.nsIn K mainGlobals "len" = some none)
    (n_abs : PySem.W.nsIn K mainGlobals "abs" = some none)
    (n_sum : PySem.W.nsIn K mainGlobals "sum" = some none)
    (n_isinstance : PySem.W.nsIn K mainGlobals "isinstance" = some none)
    (n_tuple : PySem.W.nsIn K mainGlobals "tuple" = some none)
    (n_list : PySem.W.nsIn K mainGlobals "list" = some none)
    (n_all : PySem.W.nsIn K mainGlobals "all" = some none)
    (n_zip : PySem.W.nsIn K mainGlobals "zip" = some none)
    (n_bool : PySem.W.nsIn K mainGlobals "bool" = some none)
    (n_range : PySem.W.nsIn K mainGlobals "range" = some none)
    (n_enumerate : PySem.W.nsIn K mainGlobals "enumerate" = some none)
    (n_super : PySem.W.nsIn K mainGlobals "super" = some none)
    (n_sorted : PySem.W.nsIn K mainGlobals "sorted" = some none)
    (n_ValueError : PySem.W.nsIn K mainGlobals "ValueError" = some none)
    (n_max : PySem.W.nsIn K mainGlobals "max" = some none)
    (dIn : PySem.W.nsIn K mainGlobals "is_integer" = some (some (.ref fIn))) (FIn : ∃ fd, Fun K "is_integer" "is_integer" pInteger fIn fd)
    (dNu : PySem.W.nsIn K mainGlobals "is_number" = some (some (.ref fNu))) (FNu : ∃ fd, Fun K "is_number" "is_number" pNumber fNu fd)
    (dFr : PySem.W.nsIn K mainGlobals "is_fraction" = some (some (.ref fFr))) (FFr : ∃ fd, Fun K "is_fraction" "is_fraction" pFraction fFr fd)
    (dLe : PySem.W.nsIn K mainGlobals "less" = some (some (.ref fLe))) (FLe : ∃ fd, Fun K "less" "less" pLess fLe fd)
    (dCk : PySem.W.nsIn K mainGlobals "check_terms" = some (some (.ref fCk))) (FCk : ∃ fd, Fun K "check_terms" "check_terms" pCheck fCk fd)
    (dTe : PySem.W.nsIn K mainGlobals "is_term" = some (some (.ref fTe))) (FTe : ∃ fd, Fun K "is_term" "is_term" pTerm fTe fd)
    (dRa : PySem.W.nsIn K mainGlobals "is_rate" = some (some (.ref fRa))) (FRa : ∃ fd, Fun K "is_rate" "is_rate" pRate fRa fd)
    (dSb : PySem.W.nsIn K mainGlobals "stands_behind" = some (some (.ref fSb))) (FSb : ∃ fd, Fun K "stands_behind" "stands_behind" pBehind fSb fd)
    (dB : PySem.W.nsIn K mainGlobals "_law_bag" = some (some (.ref fB))) (FB : ∃ fd, Fun K "_law_bag" "_law_bag" sBag fB fd)
    (dP : PySem.W.nsIn K mainGlobals "_law_pick" = some (some (.ref fP))) (FP : ∃ fd, Fun K "_law_pick" "_law_pick" sPick fP fd)
    (dS : PySem.W.nsIn K mainGlobals "_law_some" = some (some (.ref fS))) (FS : ∃ fd, Fun K "_law_some" "_law_some" sSome fS fd)
    (dI : PySem.W.nsIn K mainGlobals "_law_is" = some (some (.ref fI))) (FI : ∃ fd, Fun K "_law_is" "_law_is" sIs fI fd)
    (dIi : PySem.W.nsIn K mainGlobals "_law_is_int" = some (some (.ref fIi))) (FIi : ∃ fd, Fun K "_law_is_int" "_law_is_int" sIsInt fIi fd)
    (dDp : PySem.W.nsIn K mainGlobals "_law_deep" = some (some (.ref fDp))) (FDp : ∃ fd, Fun K "_law_deep" "_law_deep" sDeep fDp fd)
    (dCo : PySem.W.nsIn K mainGlobals "_law_common" = some (some (.ref fCo))) (FCo : ∃ fd, Fun K "_law_common" "_law_common" sCommon fCo fd)
    (dFc : PySem.W.nsIn K mainGlobals "_law_frac" = some (some (.ref fFc))) (FFc : ∃ fd, Fun K "_law_frac" "_law_frac" sFrac fFc fd)
    (dLs : PySem.W.nsIn K mainGlobals "_law_less" = some (some (.ref fLs))) (FLs : ∃ fd, Fun K "_law_less" "_law_less" sLess fLs fd)
    (dO : PySem.W.nsIn K mainGlobals "_law_ordered" = some (some (.ref fO))) (FO : ∃ fd, FunC K "_law_ordered" "_law_ordered" sOrdered fO fd cO)
    (dT : PySem.W.nsIn K mainGlobals "_law_terms" = some (some (.ref fT))) (FT : ∃ fd, Fun K "_law_terms" "_law_terms" sTerms fT fd)
    (dIf : PySem.W.nsIn K mainGlobals "_law_is_fraction" = some (some (.ref fIf))) (FIf : ∃ fd, Fun K "_law_is_fraction" "_law_is_fraction" sIsFr fIf fd)
    (dIt : PySem.W.nsIn K mainGlobals "_law_is_term" = some (some (.ref fIt))) (FIt : ∃ fd, Fun K "_law_is_term" "_law_is_term" sIsTm fIt fd)
    (dIb : PySem.W.nsIn K mainGlobals "_law_is_behind" = some (some (.ref fIb))) (FIb : ∃ fd, Fun K "_law_is_behind" "_law_is_behind" sBehind fIb fd)
    (dQ : PySem.W.nsIn K mainGlobals "_law_q" = some (some (.ref fQ))) (FQ : ∃ fd, Fun K "_law_q" "_law_q" sQ fQ fd)
    (dC : PySem.W.nsIn K mainGlobals "_law_c" = some (some (.ref fC))) (FC : ∃ fd, Fun K "_law_c" "_law_c" sC fC fd)
    (dV : PySem.W.nsIn K mainGlobals "_law_curve" = some (some (.ref fV))) (FV : ∃ fd, Fun K "_law_curve" "_law_curve" sCurve fV fd)
    (dD : PySem.W.nsIn K mainGlobals "_law_due" = some (some (.ref fD))) (FD : ∃ fd, Fun K "_law_due" "_law_due" sDue fD fd)
    (dTd : PySem.W.nsIn K mainGlobals "_law_told" = some (some (.ref fTd))) (FTd : ∃ fd, Fun K "_law_told" "_law_told" sTold fTd fd)
    (dOd : PySem.W.nsIn K mainGlobals "_law_odd" = some (some (.ref fOd))) (FOd : ∃ fd, Fun K "_law_odd" "_law_odd" sOdd fOd fd)
    (dBt : PySem.W.nsIn K mainGlobals "_law_bent" = some (some (.ref fBt))) (FBt : ∃ fd, Fun K "_law_bent" "_law_bent" sBent fBt fd)
    (dL : PySem.W.nsIn K mainGlobals "law" = some (some (.ref fL))) (FL : ∃ fd, Fun K "law" "law" sLaw fL fd)
    (ai : PySem.W.findIn K (.ref crv) "__init__" = some (some (.ref fCi))) (aq : PySem.W.findIn K (.ref crv) "__eq__" = some (some (.ref fCq)))
    (Fi : ∃ fd, Fun K "__init__" "Curve.__init__" pInit fCi fd) (Fe : ∃ fd, Fun K "__eq__" "Curve.__eq__" pEq fCq fd) (xcv : curveB K crv fCi fCq = true) (xne : neB K crv fCq = true) (xfn : fnB K fCq = true) (xbd : badB K bad ce = true)
    (xxi : XI K (inClass (topS 3) 0) "BadCurve.__init__" bad xa1 xa2 xa3 "index" "these are no terms of a curve" file) (tab : PySem.W.tabIn K "_law_ordered" = some (cO, tO)) (nt : K.lookup tO = none) :
    ∃ (fd : FuncData) (c P : Addr), (∀ (s : Shared) (v : Value), BindsTo s fd ⟨[v], []⟩ [("_law_script", v)]) ∧ PySem.W.tabIn K "_law_ordered" = some (c, P) ∧ K.lookup P = none ∧
      ∀ base : Heap, K.In base → base.Ns mainGlobals mg → TabB base mg c P → FnOk l.prog w K mg base CX0 9 fa fd ["_law_script"] (spLaw K (LT P)) := by
  have zz := hfa.symm.trans (PySem.W.mg_of X G dL)
  cases zz
  obtain ⟨eIn, FIn⟩ := FIn
  obtain ⟨eNu, FNu⟩ := FNu
  obtain ⟨eFr, FFr⟩ := FFr
  obtain ⟨eLe, FLe⟩ := FLe
  obtain ⟨eCk, FCk⟩ := FCk
  obtain ⟨eTe, FTe⟩ := FTe
  obtain ⟨eRa, FRa⟩ := FRa
  obtain ⟨eSb, FSb⟩ := FSb
  obtain ⟨eB, FB⟩ := FB
  obtain ⟨eP, FP⟩ := FP
  obtain ⟨eS, FS⟩ := FS
  obtain ⟨eI, FI⟩ := FI
  obtain ⟨eIi, FIi⟩ := FIi
  obtain ⟨eDp, FDp⟩ := FDp
  obtain ⟨eCo, FCo⟩ := FCo
  obtain ⟨eFc, FFc⟩ := FFc
  obtain ⟨eLs, FLs⟩ := FLs
  obtain ⟨eO, FO⟩ := FO
  obtain ⟨eT, FT⟩ := FT
  obtain ⟨eIf, FIf⟩ := FIf
  obtain ⟨eIt, FIt⟩ := FIt
  obtain ⟨eIb, FIb⟩ := FIb
  obtain ⟨eQ, FQ⟩ := FQ
  obtain ⟨eC, FC⟩ := FC
  obtain ⟨eV, FV⟩ := FV
  obtain ⟨eD, FD⟩ := FD
  obtain ⟨eTd, FTd⟩ := FTd
  obtain ⟨eOd, FOd⟩ := FOd
  obtain ⟨eBt, FBt⟩ := FBt
  obtain ⟨eL, FL⟩ := FL
  obtain ⟨eFi, Fi⟩ := Fi
  obtain ⟨eFe, Fe⟩ := Fe
  have bIn_ : Binds K eIn ["thing"] [] := FIn.binds (ps := ["thing"]) fun _ _ _ _ _ _ us hl => match us, hl with | [_], _ => rfl
  have bNu_ : Binds K eNu ["thing"] [] := FNu.binds (ps := ["thing"]) fun _ _ _ _ _ _ us hl => match us, hl with | [_], _ => rfl
  have bFr_ : Binds K eFr ["thing"] [] := FFr.binds (ps := ["thing"]) fun _ _ _ _ _ _ us hl => match us, hl with | [_], _ => rfl
  have bLe_ : Binds K eLe ["one", "other"] [] := FLe.binds (ps := ["one", "other"]) fun _ _ _ _ _ _ us hl => match us, hl with | [_, _], _ => rfl
  have bCk_ : Binds K eCk ["terms"] [] := FCk.binds (ps := ["terms"]) fun _ _ _ _ _ _ us hl => match us, hl with | [_], _ => rfl
  have bTe_ : Binds K eTe ["thing"] [] := FTe.binds (ps := ["thing"]) fun _ _ _ _ _ _ us hl => match us, hl with | [_], _ => rfl
  have bRa_ : Binds K eRa ["thing"] [] := FRa.binds (ps := ["thing"]) fun _ _ _ _ _ _ us hl => match us, hl with | [_], _ => rfl
  have bSb_ : Binds K eSb ["term", "other"] [] := FSb.binds (ps := ["term", "other"]) fun _ _ _ _ _ _ us hl => match us, hl with | [_, _], _ => rfl
  have bB_ : Binds K eB ["_law_script"] [] := FB.binds (ps := ["_law_script"]) fun _ _ _ _ _ _ us hl => match us, hl with | [_], _ => rfl
  have bP_ : Binds K eP ["_law_bag_here", "_law_many"] [] := FP.binds (ps := ["_law_bag_here", "_law_many"]) fun _ _ _ _ _ _ us hl => match us, hl with | [_, _], _ => rfl
  have bS_ : Binds K eS ["_law_bag_here", "_law_things"] [] := FS.binds (ps := ["_law_bag_here", "_law_things"]) fun _ _ _ _ _ _ us hl => match us, hl with | [_, _], _ => rfl
  have bI_ : Binds K eI ["_law_thing", "_law_due_here"] [] := FI.binds (ps := ["_law_thing", "_law_due_here"]) fun _ _ _ _ _ _ us hl => match us, hl with | [_, _], _ => rfl
  have bIi_ : Binds K eIi ["_law_thing", "_law_least", "_law_most"] [] := FIi.binds (ps := ["_law_thing", "_law_least", "_law_most"]) fun _ _ _ _ _ _ us hl => match us, hl with | [_, _, _], _ => rfl
  have bDp_ : Binds K eDp [] [] := FDp.binds (ps := []) fun _ _ _ _ _ _ us hl => match us, hl with | [], _ => rfl
  have bCo_ : Binds K eCo ["_law_one", "_law_other"] [] := FCo.binds (ps := ["_law_one", "_law_other"]) fun _ _ _ _ _ _ us hl => match us, hl with | [_, _], _ => rfl
  have bFc_ : Binds K eFc ["_law_top", "_law_bottom"] [] := FFc.binds (ps := ["_law_top", "_law_bottom"]) fun _ _ _ _ _ _ us hl => match us, hl with | [_, _], _ => rfl
  have bLs_ : Binds K eLs ["_law_one", "_law_other"] [] := FLs.binds (ps := ["_law_one", "_law_other"]) fun _ _ _ _ _ _ us hl => match us, hl with | [_, _], _ => rfl
  have bO_ : Binds K eO ["_law_keys"] [] := FO.to.binds (ps := ["_law_keys"]) fun _ _ _ _ _ _ us hl => match us, hl with | [_], _ => rfl
  have bT_ : Binds K eT ["_law_parts"] [] := FT.binds (ps := ["_law_parts"]) fun _ _ _ _ _ _ us hl => match us, hl with | [_], _ => rfl
  have bIf_ : Binds K eIf ["_law_thing"] [] := FIf.binds (ps := ["_law_thing"]) fun _ _ _ _ _ _ us hl => match us, hl with | [_], _ => rfl
  have bIt_ : Binds K eIt ["_law_thing"] [] := FIt.binds (ps := ["_law_thing"]) fun _ _ _ _ _ _ us hl => match us, hl with | [_], _ => rfl
  have bIb_ : Binds K eIb ["_law_ahead", "_law_term"] [] := FIb.binds (ps := ["_law_ahead", "_law_term"]) fun _ _ _ _ _ _ us hl => match us, hl with | [_, _], _ => rfl
  have bQ_ : Binds K eQ ["_law_bag_here"] [] := FQ.binds (ps := ["_law_bag_here"]) fun _ _ _ _ _ _ us hl => match us, hl with | [_], _ => rfl
  have bC_ : Binds K eC ["_law_bag_here"] [] := FC.binds (ps := ["_law_bag_here"]) fun _ _ _ _ _ _ us hl => match us, hl with | [_], _ => rfl
  have bV_ : Binds K eV ["_law_bag_here", "_law_size"] [] := FV.binds (ps := ["_law_bag_here", "_law_size"]) fun _ _ _ _ _ _ us hl => match us, hl with | [_, _], _ => rfl
  have bD_ : Binds K eD ["_law_terms_here"] [] := FD.binds (ps := ["_law_terms_here"]) fun _ _ _ _ _ _ us hl => match us, hl with | [_], _ => rfl
  have bTd_ : Binds K eTd ["_law_terms_here"] [] := FTd.binds (ps := ["_law_terms_here"]) fun _ _ _ _ _ _ us hl => match us, hl with | [_], _ => rfl
  have bOd_ : Binds K eOd ["_law_bag_here"] [] := FOd.binds (ps := ["_law_bag_here"]) fun _ _ _ _ _ _ us hl => match us, hl with | [_], _ => rfl
  have bBt_ : Binds K eBt ["_law_bag_here", "_law_terms_here"] [] := FBt.binds (ps := ["_law_bag_here", "_law_terms_here"]) fun _ _ _ _ _ _ us hl => match us, hl with | [_, _], _ => rfl
  have bFi : Binds K eFi ["self", "terms"] [] := Fi.binds (ps := ["self", "terms"]) fun _ _ _ _ _ _ us hl => match us, hl with | [_, _], _ => rfl
  have bFe : Binds K eFe ["self", "other"] [] := Fe.binds (ps := ["self", "other"]) fun _ _ _ _ _ _ us hl => match us, hl with | [_, _], _ => rfl
  have n_int := PySem.W.mg_none_of X G n_int
  have n_len := PySem.W.mg_none_of X G n_len
  have n_abs := PySem.W.mg_none_of X G n_abs
  have n_sum := PySem.W.mg_none_of X G n_sum
  have n_isinstance := PySem.W.mg_none_of X G n_isinstance
  have n_tuple := PySem.W.mg_none_of X G n_tuple
  have n_list := PySem.W.mg_none_of X G n_list
  have n_all := PySem.W.mg_none_of X G n_all
  have n_zip := PySem.W.mg_none_of X G n_zip
  have n_bool := PySem.W.mg_none_of X G n_bool
  have n_range := PySem.W.mg_none_of X G n_range
  have n_enumerate := PySem.W.mg_none_of X G n_enumerate
  have n_super := PySem.W.mg_none_of X G n_super
  have n_sorted := PySem.W.mg_none_of X G n_sorted
  have n_ValueError := PySem.W.mg_none_of X G n_ValueError
  have n_max := PySem.W.mg_none_of X G n_max
  have dIn := PySem.W.mg_of X G dIn
  have dNu := PySem.W.mg_of X G dNu
  have dFr := PySem.W.mg_of X G dFr
  have dLe := PySem.W.mg_of X G dLe
  have dCk := PySem.W.mg_of X G dCk
  have dTe := PySem.W.mg_of X G dTe
  have dRa := PySem.W.mg_of X G dRa
  have dSb := PySem.W.mg_of X G dSb
  have dB := PySem.W.mg_of X G dB
  have dP := PySem.W.mg_of X G dP
  have dS := PySem.W.mg_of X G dS
  have dI := PySem.W.mg_of X G dI
  have dIi := PySem.W.mg_of X G dIi
  have dDp := PySem.W.mg_of X G dDp
  have dCo := PySem.W.mg_of X G dCo
  have dFc := PySem.W.mg_of X G dFc
  have dLs := PySem.W.mg_of X G dLs
  have dO := PySem.W.mg_of X G dO
  have dT := PySem.W.mg_of X G dT
  have dIf := PySem.W.mg_of X G dIf
  have dIt := PySem.W.mg_of X G dIt
  have dIb := PySem.W.mg_of X G dIb
  have dQ := PySem.W.mg_of X G dQ
  have dC := PySem.W.mg_of X G dC
  have dV := PySem.W.mg_of X G dV
  have dD := PySem.W.mg_of X G dD
  have dTd := PySem.W.mg_of X G dTd
  have dOd := PySem.W.mg_of X G dOd
  have dBt := PySem.W.mg_of X G dBt
  have dL := PySem.W.mg_of X G dL
  have ae := PySem.W.mg_of X G ae
  have ab := PySem.W.mg_of X G ab
  have ac := PySem.W.mg_of X G ac
  have an := PySem.W.mg_of X G an
  have ag := PySem.W.mg_of X G ag
  have a1 := PySem.W.mg_of X G a1
  have a2 := PySem.W.mg_of X G a2
  have a3 := PySem.W.mg_of X G a3
  have a4 := PySem.W.mg_of X G a4
  unfold curveB at xcv
  simp only [Bool.and_eq_true, decide_eq_true_eq] at xcv
  obtain ⟨c1, c2, c3, c4, c5, c6, c7, c8, c9, c10, c11, c12, c13, c14, c15, c16, c17, c18⟩ := xcv
  unfold badB at xbd
  simp only [Bool.and_eq_true, decide_eq_true_eq] at xbd
  obtain ⟨h1, h2, h3, h4, h5⟩ := xbd
  have J : JudT mg := ⟨n_isinstance, n_int, n_bool, n_tuple, n_len, n_all, n_abs, n_enumerate⟩
  have BT : BltT mg := ⟨n_int, n_len, n_abs, n_sum⟩
  have cv : CvK K mg crv := ⟨⟨c1, c2, c3, c4⟩, c5, ac, c6, c7, c8, c9, c10, fun d => of_decide_eq_true (List.all_eq_true.mp c11 _ (tyN_mem d))⟩
  have bt : BadT l.prog K mg bad := ⟨_, _, _, _, _, _, _, xxi, pf, n_super, ab, h1⟩
  have dNil : ∀ H : Hp, Dp K H (.ref nil) (.tuple [.int 0, .int 1]) := fun H => Dp.tup (xs := [V.int 0, V.int 1]) (.inr ⟨_, _, _, ln, rfl, rfl, by show 2 ≤ sizeLine; decide, .cons ⟨_, rfl⟩ (.cons ⟨_, rfl⟩ .nil)⟩) (.cons (.int 0) (.cons (.int 1) .nil))
  refine ⟨eL, cO, tO, fun s v => ?_, tab, nt, fun base _ _ TB => ?_⟩
  · obtain ⟨_, _, _, _, _, _, _, _, _, rfl, _, _⟩ := FL.ex
    exact .of_eq rfl
  -- the program
  have GIn : FnOk l.prog w K mg base CX0 1 fIn eIn ["thing"] spInteger := ok_integer FIn J
  have iT : IntT l.prog w K mg base := ⟨_, _, GIn, bIn_, dIn, FIn.kp, ag⟩
  have GNu : FnOk l.prog w K mg base CX0 2 fNu eNu ["thing"] spNumber := ok_number FNu iT
  have GFr : FnOk l.prog w K mg base CX0 2 fFr eFr ["thing"] spFraction := ok_fraction FFr J iT
  have GLe : FnOk l.prog w K mg base CX0 1 fLe eLe ["one", "other"] spLess := ok_pless FLe
  have pj : PjT l.prog w K mg base := ⟨_, _, _, _, _, _, nil, GFr, GNu, GLe, bFr_, bNu_, bLe_, dFr, dNu, dLe, FFr.kp, FNu.kp, FLe.kp, an, dNil, ⟨_, a1⟩, ⟨_, a2⟩, ⟨_, a3⟩, ⟨_, a4⟩⟩
  have GRa : FnOk l.prog w K mg base CX0 3 fRa eRa ["thing"] spRate := ok_rate FRa J pj
  have pk : PkT l.prog w K mg base := ⟨pj, _, _, GRa, bRa_, dRa, FRa.kp⟩
  have GTe : FnOk l.prog w K mg base CX0 4 fTe eTe ["thing"] spPTerm := ok_pterm FTe J pk
  have GSb : FnOk l.prog w K mg base CX0 2 fSb eSb ["term", "other"] spPBehind := ok_pbehind FSb pj
  have ck : ChkT l.prog w K mg base := ⟨pk, _, _, _, _, GTe, GSb, bTe_, bSb_, dTe, dSb, FTe.kp, FSb.kp⟩
  have GCk : FnOk l.prog w K mg base (L2.CX l.prog w) 5 fCk eCk ["terms"] (spCheck bad) := ok_check FCk J ck bt
  have ini : IniT l.prog w K mg base bad := ⟨_, _, GCk, bCk_, dCk, FCk.kp⟩
  have GFi : FnOk l.prog w K mg base (L2.CX l.prog w) 6 fCi eFi ["self", "terms"] (spInit crv bad) := ok_init Fi cv ini
  have GFe : FnOk l.prog w K mg base CX0 1 fCq eFe ["self", "other"] (spCEq K crv) := ok_ceq Fe cv J
  have tld : TldT l.prog w K mg base crv bad := ⟨_, _, ce, GFi, bFi, ⟨c12, c13, c14, c15⟩, cv, bt, ae, h2, h3, h4, n_ValueError, h5⟩
  -- the law
  have GP : FnOk l.prog w K mg base CX0 1 fP eP ["_law_bag_here", "_law_many"] spPick := ok_pick FP BT
  have GS : FnOk l.prog w K mg base CX0 2 fS eS ["_law_bag_here", "_law_things"] spSome := ok_some FS BT FP bP_ dP
  have GB : FnOk l.prog w K mg base CX0 1 fB eB ["_law_script"] (spBag K) := ok_bag FB BT
  have GI : FnOk l.prog w K mg base CX0 6 fI eI ["_law_thing", "_law_due_here"] (spIs K 6) := ok_is FI ⟨n_isinstance, n_tuple, n_list, n_len, n_all, n_zip, n_bool⟩ bI_ dI 6
  have GDp : FnOk l.prog w K mg base CX0 1 fDp eDp [] spDeep := ok_deep FDp n_range
  have GCo : FnOk l.prog w K mg base CX0 1 fCo eCo ["_law_one", "_law_other"] spCommon := ok_common FCo BT
  have GFc : FnOk l.prog w K mg base CX0 2 fFc eFc ["_law_top", "_law_bottom"] spFrac := ok_frac FFc BT n_max FCo bCo_ dCo
  have num : NumT l.prog w K mg base := ⟨_, _, _, _, _, _, GP, GS, GFc, bP_, bS_, bFc_, dP, dS, dFc, FP.kp, FS.kp, FFc.kp⟩
  have GQ : FnOk l.prog w K mg base CX0 3 fQ eQ ["_law_bag_here"] spQ := ok_q FQ num
  have GC : FnOk l.prog w K mg base CX0 3 fC eC ["_law_bag_here"] spC := ok_c FC num
  have GO : FnOk l.prog w K mg base CX0 2 fO eO ["_law_keys"] (spOrdered (LT tO)) := ok_ordered FO ⟨_, _, GCo, bCo_, dCo, FCo.kp, n_sorted⟩ TB
  have GT : FnOk l.prog w K mg base CX0 3 fT eT ["_law_parts"] (spTerms l.prog w (LT tO)) := ok_terms FT ⟨_, _, GO, bO_, dO, FO.kp, n_tuple⟩
  have GV : FnOk l.prog w K mg base CX0 4 fV eV ["_law_bag_here", "_law_size"] (spCurve (LT tO)) := ok_curve FV ⟨num, _, _, _, _, _, _, GQ, GC, GT, bQ_, bC_, bT_, dQ, dC, dT, FQ.kp, FC.kp, FT.kp, n_range⟩
  have GIi : FnOk l.prog w K mg base CX0 1 fIi eIi ["_law_thing", "_law_least", "_law_most"] spIsInt := ok_isint FIi J
  have fr : FrT l.prog w K mg base := ⟨_, _, _, _, GIi, GCo, bIi_, bCo_, dIi, dCo, FIi.kp, FCo.kp⟩
  have GIf : FnOk l.prog w K mg base CX0 2 fIf eIf ["_law_thing"] spIsFr := ok_isfr FIf J fr
  have GIt : FnOk l.prog w K mg base CX0 3 fIt eIt ["_law_thing"] spIsTm := ok_istm FIt J ⟨fr, _, _, GIf, bIf_, dIf, FIf.kp⟩
  have GLs : FnOk l.prog w K mg base CX0 1 fLs eLs ["_law_one", "_law_other"] spLess := ok_less FLs
  have GIb : FnOk l.prog w K mg base CX0 2 fIb eIb ["_law_ahead", "_law_term"] spBehind := ok_behind FIb ⟨_, _, GLs, bLs_, dLs, FLs.kp⟩
  have GD : FnOk l.prog w K mg base CX0 4 fD eD ["_law_terms_here"] spDue := ok_due FD J ⟨_, _, _, _, GIt, GIb, bIt_, bIb_, dIt, dIb, FIt.kp, FIb.kp⟩
  have GTd : FnOk l.prog w K mg base CX0 8 fTd eTd ["_law_terms_here"] spTold := ok_told FTd J tld
  have GOd : FnOk l.prog w K mg base CX0 3 fOd eOd ["_law_bag_here"] spOdd := ok_odd FOd ⟨num, _, _, GDp, bDp_, dDp, FDp.kp⟩
  have GBt : FnOk l.prog w K mg base CX0 5 fBt eBt ["_law_bag_here", "_law_terms_here"] (spBent (LT tO)) := ok_bent FBt J ⟨num, _, _, _, _, GOd, GV, bOd_, bV_, dOd, dV, FOd.kp, FV.kp, n_list⟩
  exact ok_law FL ⟨_, _, _, _, _, _, _, _, _, _, _, _, _, _, GB, GP, GV, GI, GTd, GD, GBt, bB_, bP_, bV_, bI_, bTd_, bD_, bBt_, dB, dP, dV, dI, dTd, dD, dBt, FB.kp, FP.kp, FV.kp, FI.kp, FTd.kp, FD.kp, FBt.kp, tld,
    ⟨_, _, GFe, bFe, c16, c17, fun d => List.all_eq_true.mp c18 _ (tyN_mem d)⟩, ne_mk xne xfn, n_tuple, n_list, n_range⟩
theorem walk {l : PySem.W.OpenLaw} {q : Program} {loose : List Str} {XP : (Str → Option Value) → Heap → Prop} {YP : World → Heap → Prop} {d dO : DefRec} {K : Params → PySem.W.Frag} (hn : l.most = some 63) (hdf : d.params.defaults = [])
    (hY : ∀ (w : World) (h : Heap), YP w h → (K w.params).In h) (hO : (recsOf q).find? (fun e => e.name == ("_law_ordered" : Str)) = some dO)
    (F : ∀ (w : World) (mg : Str → Option Value) (fa : Addr) (h : Heap), (K w.params).In h → h.Ns mainGlobals mg → mg d.name = some (.ref fa) →
      ∃ (fd : FuncData) (c P : Addr), (∀ (s : Shared) (v : Value), BindsTo s fd ⟨[v], []⟩ [("_law_script", v)]) ∧ PySem.W.tabIn (K w.params) "_law_ordered" = some (c, P) ∧ (K w.params).lookup P = none ∧
        ∀ base : Heap, (K w.params).In base → base.Ns mainGlobals mg → TabB base mg c P → FnOk l.prog w (K w.params) mg base CX0 9 fa fd ["_law_script"] (spLaw (K w.params) (LT P))) :
    PySem.W.WalkO q loose XP YP l.row.toRowW d [] (fun f vs => PySem.call f vs) := by
  refine Att.attach_callB hn hdf fun w s₀ s₁ mg mb fa o pm cd doc a vs ns G Y ho hd hcd hmg hobj hints hlen hbits hg => ?_
  have KX := hY w _ Y
  obtain ⟨fd, c, P, hb, ht, nP, hF⟩ := F w mg fa _ KX G.T.g hmg
  obtain ⟨hC, hP⟩ := PySem.W.tab_of G.T KX hO ht
  refine law_callTs (cs := [(c, P)]) (CX := CX0) (k := 9) (sp := spLaw (K w.params) (LT P)) (x := "_law_script") KX G.T.g G.T.b G.T.builtins G.T.nolimit hg ?_ ?_ ?_ G.T.bmain hobj hints (Nat.le_trans hlen (by decide)) ⟨rfl, by decide, by decide⟩ ?_ hb ?_ fun H e s' z => z
  · intro p hp
    rw [List.mem_singleton.mp hp]
    exact hP
  · intro p hp
    rw [List.mem_singleton.mp hp]
    exact nP
  · intro p hp
    rw [List.mem_singleton.mp hp]
    exact hC
  · exact fun base h1 h2 h3 => hF base h1 h2 (h3 _ (List.mem_singleton.mpr rfl))
  · intro H h1 h2
    refine ⟨a, ns, rfl, h2, hlen, fun p hp => ?_, fun _ => rfl⟩
    rw [List.mem_singleton.mp hp]
    exact TabS.nil (h1 _ (List.mem_singleton.mpr rfl))
end Nm
open PySem PySem.W PyProof.Rows
set_option maxRecDepth 100000 in
set_option maxHeartbeats 0 in
theorem PySem.Challenge.cw_namedmoments_k01_whole_curves_judged_holds : PySem.Challenge.rw_namedmoments_k01_whole_curves_judged.Holds := by
  w_on; o_law; k_head; (case hw => w_witness2)
  k_fill
  refine' Nm.walk (l := PySem.Challenge.rw_namedmoments_k01_whole_curves_judged) rfl rfl (fun w h Y => PySem.W.km_in_of Y) ?hO ?F
  (case hO => rfl)
  case F =>
    intro w mg fa h KX G hmg
    refine' Nm.all_mk (tO := 222) (file := "/claim/cut.py") KX G hmg ?pf ?ae ?ab ?ac ?an ?ln ?ag ?a1 ?a2 ?a3 ?a4 ?n_int ?n_len ?n_abs ?n_sum ?n_isinstance ?n_tuple ?n_list ?n_all ?n_zip ?n_bool ?n_range ?n_enumerate ?n_super ?n_sorted ?n_ValueError ?n_max ?dIn ?FIn ?dNu ?FNu ?dFr ?FFr ?dLe ?FLe ?dCk ?FCk ?dTe ?FTe ?dRa ?FRa ?dSb ?FSb ?dB ?FB ?dP ?FP ?dS ?FS ?dI ?FI ?dIi ?FIi ?dDp ?FDp ?dCo ?FCo ?dFc ?FFc ?dLs ?FLs ?dO ?FO ?dT ?FT ?dIf ?FIf ?dIt ?FIt ?dIb ?FIb ?dQ ?FQ ?dC ?FC ?dV ?FV ?dD ?FD ?dTd ?FTd ?dOd ?FOd ?dBt ?FBt ?dL ?FL ?ai ?aq ?Fi ?Fe ?xcv ?xne ?xfn ?xbd ?xxi ?tab ?nt
    (case pf => exact ⟨by decide +kernel, by decide +kernel⟩)
    (case ae => k_is)
    (case ab => k_is)
    (case ac => k_is)
    (case an => k_is)
    (case ln => k_is)
    (case ag => k_is)
    (case a1 => k_is)
    (case a2 => k_is)
    (case a3 => k_is)
    (case a4 => k_is)
    (case n_int => k_is)
    (case n_len => k_is)
    (case n_abs => k_is)
    (case n_sum => k_is)
    (case n_isinstance => k_is)
    (case n_tuple => k_is)
    (case n_list => k_is)
    (case n_all => k_is)
    (case n_zip => k_is)
    (case n_bool => k_is)
    (case n_range => k_is)
    (case n_enumerate => k_is)
    (case n_super => k_is)
    (case n_sorted => k_is)
    (case n_ValueError => k_is)
    (case n_max => k_is)
    (case dIn => k_is)
    (case FIn => refine' Nm.def_mk ?l ?c ?k; (case l => k_is); (case c => k_is); (case k => k_is))
    (case dNu => k_is)
    (case FNu => refine' Nm.def_mk ?l ?c ?k; (case l => k_is); (case c => k_is); (case k => k_is))
    (case dFr => k_is)
    (case FFr => refine' Nm.def_mk ?l ?c ?k; (case l => k_is); (case c => k_is); (case k => k_is))
    (case dLe => k_is)
    (case FLe => refine' Nm.def_mk ?l ?c ?k; (case l => k_is); (case c => k_is); (case k => k_is))
    (case dCk => k_is)
    (case FCk => refine' Nm.def_mk ?l ?c ?k; (case l => k_is); (case c => k_is); (case k => k_is))
    (case dTe => k_is)
    (case FTe => refine' Nm.def_mk ?l ?c ?k; (case l => k_is); (case c => k_is); (case k => k_is))
    (case dRa => k_is)
    (case FRa => refine' Nm.def_mk ?l ?c ?k; (case l => k_is); (case c => k_is); (case k => k_is))
    (case dSb => k_is)
    (case FSb => refine' Nm.def_mk ?l ?c ?k; (case l => k_is); (case c => k_is); (case k => k_is))
    (case dB => k_is)
    (case FB => refine' Nm.def_mk ?l ?c ?k; (case l => k_is); (case c => k_is); (case k => k_is))
    (case dP => k_is)
    (case FP => refine' Nm.def_mk ?l ?c ?k; (case l => k_is); (case c => k_is); (case k => k_is))
    (case dS => k_is)
    (case FS => refine' Nm.def_mk ?l ?c ?k; (case l => k_is); (case c => k_is); (case k => k_is))
    (case dI => k_is)
    (case FI => refine' Nm.def_mk ?l ?c ?k; (case l => k_is); (case c => k_is); (case k => k_is))
    (case dIi => k_is)
    (case FIi => refine' Nm.def_mk ?l ?c ?k; (case l => k_is); (case c => k_is); (case k => k_is))
    (case dDp => k_is)
    (case FDp => refine' Nm.def_mk ?l ?c ?k; (case l => k_is); (case c => k_is); (case k => k_is))
    (case dCo => k_is)
    (case FCo => refine' Nm.def_mk ?l ?c ?k; (case l => k_is); (case c => k_is); (case k => k_is))
    (case dFc => k_is)
    (case FFc => refine' Nm.def_mk ?l ?c ?k; (case l => k_is); (case c => k_is); (case k => k_is))
    (case dLs => k_is)
    (case FLs => refine' Nm.def_mk ?l ?c ?k; (case l => k_is); (case c => k_is); (case k => k_is))
    (case dO => k_is)
    (case FO => refine' Nm.defc_mk ?l ?hh ?k; (case l => k_is); (case hh => k_is); (case k => k_is))
    (case dT => k_is)
    (case FT => refine' Nm.def_mk ?l ?c ?k; (case l => k_is); (case c => k_is); (case k => k_is))
    (case dIf => k_is)
    (case FIf => refine' Nm.def_mk ?l ?c ?k; (case l => k_is); (case c => k_is); (case k => k_is))
    (case dIt => k_is)
    (case FIt => refine' Nm.def_mk ?l ?c ?k; (case l => k_is); (case c => k_is); (case k => k_is))
    (case dIb => k_is)
    (case FIb => refine' Nm.def_mk ?l ?c ?k; (case l => k_is); (case c => k_is); (case k => k_is))
    (case dQ => k_is)
    (case FQ => refine' Nm.def_mk ?l ?c ?k; (case l => k_is); (case c => k_is); (case k => k_is))
    (case dC => k_is)
    (case FC => refine' Nm.def_mk ?l ?c ?k; (case l => k_is); (case c => k_is); (case k => k_is))
    (case dV => k_is)
    (case FV => refine' Nm.def_mk ?l ?c ?k; (case l => k_is); (case c => k_is); (case k => k_is))
    (case dD => k_is)
    (case FD => refine' Nm.def_mk ?l ?c ?k; (case l => k_is); (case c => k_is); (case k => k_is))
    (case dTd => k_is)
    (case FTd => refine' Nm.def_mk ?l ?c ?k; (case l => k_is); (case c => k_is); (case k => k_is))
    (case dOd => k_is)
    (case FOd => refine' Nm.def_mk ?l ?c ?k; (case l => k_is); (case c => k_is); (case k => k_is))
    (case dBt => k_is)
    (case FBt => refine' Nm.def_mk ?l ?c ?k; (case l => k_is); (case c => k_is); (case k => k_is))
    (case dL => k_is)
    (case FL => refine' Nm.def_mk ?l ?c ?k; (case l => k_is); (case c => k_is); (case k => k_is))
    (case ai => k_is)
    (case aq => k_is)
    (case Fi => refine' Nm.def_mk ?l ?c ?k; (case l => k_is); (case c => k_is); (case k => k_is))
    (case Fe => refine' Nm.def_mk ?l ?c ?k; (case l => k_is); (case c => k_is); (case k => k_is))
    (case xcv => kernel_rfl)
    (case xne => kernel_rfl)
    (case xfn => kernel_rfl)
    (case xbd => kernel_rfl)
    (case xxi => refine' Nm.xi_mk Nm.sh_bad Nm.fn_index ?iC ?l1 ?c1 ?tI ?l2 ?l3 ?v2 ?opq ?hh; (case iC => k_is); (case l1 => k_is); (case c1 => k_is); (case tI => k_is); (case l2 => k_is); (case l3 => k_is); (case v2 => rfl); (case opq => k_is); (case hh => kernel_rfl))
    (case tab => kernel_rfl)
    (case nt => kernel_rfl)
