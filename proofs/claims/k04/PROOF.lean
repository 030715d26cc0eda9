import PyProof.Rows.All
import Wide.All
import OpenK.AllK
import Wide.FinOn
import KE.KExcSuper
import KE.KExcIs
import HandS.ForMost
import HandS.Exc
import HandS.ExcOwn
import HandS.ExcValue
import HandS.ExcInit
import HandS.IsInst
import HandS.Wide
import HandS.More
import HandS.Zip
import HandS.Iter
import KE.KDictKeyed
import KE.KDictWalk
import HandS.Lambda
import HandS.SortKw
import KE.SortKeyHeap
import KE.GoesEnum
import HandS.TryOnly
import HandS.WordsExc
import HandS.Conv
import HandS.Gcd
import HandS.Text
import HandS.StrMore
import KE.IntTextText
import HandS.Rev
import HandS.WideBits
import HandS.Base
import HandS.Flow
import PyProof.NeKinds
import HandS.ReplaceLit
import HandS.Comp
import HandS.Style
import HandS.ExcField
import PyProof.StrOps2
import HandS.EndTab
import HandS.HeadHook3
import PySem.Challenge.RW_namedmoments_k04_whole_first_wrong_piece
set_option Elab.async false
set_option linter.all false
set_option maxRecDepth 100000
set_option maxHeartbeats 4000000
/-! Own exceptions as values: made without and with a field, read, asked by isinstance. -/
namespace Nm
open PySem PySem.Spec PyProof.Rows L2

/-- what the written part says of an exception class -/
structure XT (K : PySem.W.Frag) (C : Addr) : Prop where
  cl : PySem.W.isClsIn K C = true
  ga : PySem.W.findIn K (.ref C) "__getattribute__" = some (some (.builtin "BaseException.__getattribute__"))
  gt : PySem.W.findIn K (.ref C) "__getattr__" = some none
  sub : PySem.W.subIn K (.ref C) (.type "BaseException") = some true
  ca : PySem.W.findIn K (.ref C) "__class__" = some (some (.builtin "object.__class__"))
  gs : PySem.W.specialIn K (.builtin "object.__class__") "__get__" = some (some (.builtin "getset_descriptor.__get__"))
  tk : PySem.W.takesIn K (.builtin "object.__class__") = some true
  mr : PySem.W.mroIn K C (.type "object") = some true
  hd : PySem.W.hasDictIn K C = true
  kp : PySem.W.keepIn K (.ref C) = true

/-- isinstance(e, c), e a made exception -/
def rIsX (K : PySem.W.Frag) : List V → Hp → VK → Prop := fun xs H Q => ∃ (a C : Addr) (d : Option Addr) (c : V) (u : Value) (b : Bool), xs = [.ref a, c] ∧ H a = some (exo a C d) ∧
  (∀ dx, d = some dx → ∃ fs, H dx = some (exd dx fs)) ∧ XT K C ∧ ClsV c u ∧ PySem.W.kitOne K (.ref C) u = some b ∧ Q (.bl b) H
theorem exo_inst {X : Cx} {pins : List (Addr × Obj)} {σ : L2.St} {H : Hp} {s : Shared} {a C : Addr} {d : Option Addr} (I : Inv X pins σ H s) (ha : H a = some (exo a C d)) (hd : ∀ dx, d = some dx → ∃ fs, H dx = some (exd dx fs)) :
    ∃ (ox : Obj) (od : Option Obj), PySem.W.InstAt s.heap a ox C od := by
  obtain ⟨t1, ho⟩ := exo_at I.hok ha
  cases d with
  | none => exact ⟨_, none, ho, rfl, rfl, trivial⟩
  | some dx =>
    obtain ⟨fs, e⟩ := hd dx rfl
    obtain ⟨mA, hns, _⟩ := exd_at I.hok e
    obtain ⟨od, ho', _⟩ := lookIn_ns hns
    exact ⟨_, some od, ho, rfl, rfl, ho'⟩
theorem call_isX {X : Cx} : CallR X (.builtin "isinstance") (rIsX X.K) := by
  intro pins s σ H xs us Q I r h
  obtain ⟨a, C, d, c, u, b, rfl, ha, hd, T, k, e, q⟩ := h
  obtain ⟨u1, u2, rfl, r1, r2⟩ := vals2 r
  have e2 := k.eq r2
  subst e2
  obtain rfl : u1 = Value.ref a := r1
  obtain ⟨ox, od, J⟩ := exo_inst I ha hd
  exact PySem.W.kia_one (PySem.W.kitx_exc T.cl T.ga T.gt T.sub T.ca T.gs T.tk T.mr) I.kIn J e (fun z => nomatch z) fun tk => ⟨.bl b, H, I.tok tk, rfl, q⟩

/-- e.f, e a made exception that bears the field -/
def tXfd (K : PySem.W.Frag) (f : Str) (te : TE) : TE := fun σ H Q => te σ H fun x H1 => ∃ (a C dx : Addr) (fs : List (Str × V)) (v : V), x = .ref a ∧ H1 a = some (exo a C (some dx)) ∧ H1 dx = some (exd dx fs) ∧
  XT K C ∧ PySem.W.findIn K (.ref C) f = some none ∧ fs.lookup f = some v ∧ Q v H1
theorem pe_xfd {X : Cx} {e : Expr} {te : TE} {pos : Pos} {n : Str} (he : PE X e te) (hb : attributeBase e n X.env (eval e X.env) = eval e X.env := by rfl) : PE X (.Attribute e n pos) (tXfd X.K n te) := by
  refine ⟨fun pins s σ H Q I h => ?_⟩
  refine attr_of hb (thn (he.run pins s σ H _ I h) fun u s1 hh => ?_)
  obtain ⟨x, H1, I1, rx, a, C, dx, fs, v, ex, ea, ed, T, hno, l, q⟩ := hh
  subst ex
  obtain rfl : u = Value.ref a := rx
  obtain ⟨t1, ho⟩ := exo_at I1.hok ea
  obtain ⟨mA, hns, hr⟩ := exd_at I1.hok ed
  obtain ⟨od, ho', hl⟩ := lookIn_ns hns
  obtain ⟨u, hu, ru⟩ := RelO.some_of (v := v) (o := mA n) (by rw [← l]; exact hr n)
  exact HandSPX.exc_get (od := some od) I1.kIn ⟨ho, rfl, rfl, ho'⟩ T.ga T.gt T.sub (PySem.W.findObj_own T.hd hno rfl (by rw [hl, hu])) (handed_of ru) ⟨v, H1, I1.tok _, ru, q⟩

/-- C(), an own exception class without __init__ -/
theorem pe_new0 {X : Cx} {C : Addr} {bmB : List Value} {B newId initId : String} {x : Str} {p pos : Pos} (F : ExcBaseFacts B newId initId bmB) (q : PySem.W.excIn X.K C bmB newId = true) (gC : X.mg x = some (.ref C)) (kC : PySem.W.keepIn X.K (.ref C) = true) (hg : Gl X x := by rfl)
    (hdb : (x == ("__debug__" : Str)) = false := by decide) : PE X (.Call (.Name x p) [] [] pos) (fun σ H Q => ∀ a, H a = none → Q (.ref a) (upd H a (exo a C none))) := by
  refine ⟨fun pins s σ H Q I h => ?_⟩
  refine wpAny_Call_Name_kw (ld_glob I hg gC ?_ hdb)
  refine PySem.W.callWith_K0 I.kIn kC ?_
  show wpAny _ _ (call (.ref C) []) _ _ _
  obtain ⟨bm, N, nm, qn, bs, hdct, sn, sub, ab, col, dd, k0, k1, k2, k3, k5, mN, hC, hN, hni, T⟩ := exc_obj I.kIn q
  obtain ⟨hp, g, d, t, os⟩ := s
  refine wpAny_call_exc_subT F T hC hN hni (fun h' a hm => ?_) (by show 0 ≤ sizeLine; omega)
  have hn : H a = none := I.hok.gone hm.new
  obtain ⟨t1, ht, _, _⟩ := hm.there
  exact ⟨.ref a, _, I.laidN hm.keeps hm.new hn (exo_ok ht), rfl, h a hn⟩
end Nm

/-! C(v), C an own exception class whose __init__ says super().__init__(text) and keeps v in a field. -/
namespace Nm
open PySem PySem.Spec PyProof.Rows L2

def iArgs (f : Str) (p1 p2 : Pos) : Arguments := { posonlyargs := [], args := [{ arg := "self", annotation := none, pos := p1 }, { arg := f, annotation := none, pos := p2 }], vararg := none, kwonlyargs := [], kw_defaults := [], kwarg := none, defaults := [] }
def iBody (f txt : Str) (k : Nat) (a1 a2 a3 a4 a5 a6 b1 b2 b3 b4 : Pos) : List Stmt :=
  [.Expr (.Call (.Attribute (.Call (.Name "super" a1) [] [] a2) "__init__" a3) [.Constant (.str txt) k a4] [] a5) a6, .Assign [.Attribute (.Name "self" b1) f b2] (.Name f b3) b4]
def iScope (f : Str) : Scope := { kind := .function, names := [(PySem.Str.ofString "self", .local), (f, .local), (PySem.Str.ofString "__class__", .free), (PySem.Str.ofString "super", .globalImplicit)], isGenerator := false, isCoroutine := false, more := [] }
/-- the tree of super().__init__(text) -/
def ICall (txt : Str) (k : Nat) (a1 a2 a3 a4 a5 : Pos) : Prop := ∃ pl : Sem Bool, ∀ env : Env, eval (.Call (.Attribute (.Call (.Name "super" a1) [] [] a2) "__init__" a3) [.Constant (.str txt) k a4] [] a5) env = (do
  let ov ← attributeBase (.Call (.Name "super" a1) [] [] a2) "__init__" env (eval (.Call (.Name "super" a1) [] [] a2) env)
  standAt a3.atName
  let (f, first) ← holding [ov] (getMethod ov "__init__" pl)
  callWith a5 f first (backTo a5 (starEach [.Constant (.str txt) k a4] env)) [])
/-- the text of such an __init__ -/
def IShape (st : Stmt) (f txt : Str) : Prop := ∃ k p1 p2 a1 a2 a3 a4 a5 a6 b1 b2 b3 b4, defArgs st = iArgs f p1 p2 ∧ defBody st = iBody f txt k a1 a2 a3 a4 a5 a6 b1 b2 b3 b4 ∧ defScope st = iScope f ∧ ICall txt k a1 a2 a3 a4 a5
/-- a field's name is none of the others -/
structure FName (f : Str) : Prop where
  self : (f == (PySem.Str.ofString "self")) = false
  self' : ((PySem.Str.ofString "self") == f) = false
  cls : ((PySem.Str.ofString "__class__") == f) = false
  sup : ((PySem.Str.ofString "super") == f) = false
  dbg : (f == ("__debug__" : Str)) = false
  bnd : ∀ (qual : Str) (p1 p2 : Pos) (body : List Stmt) (kV doc pm : Value) (an : Option Addr) (cdv ct : Value) (cc : Addr) (u v : Value),
    bindArgs (PySem.W.ksFn "__init__" qual (iArgs f p1 p2) body (iScope f) .none kV doc pm an cdv ct cc) ⟨[u, v], []⟩ = (pure [((PySem.Str.ofString "self" : Str), u), (f, v)] : Sem (List (Str × Value)))
/-- what the written part says of the class at C, its __init__ at fI (code at cda, cell at cc) -/
structure XI (K : PySem.W.Frag) (st : Stmt) (qual : Str) (C fI cc cda : Addr) (f txt file : Str) : Prop where
  xt : XT K C
  shape : IShape st f txt
  nf : FName f
  cls : ∃ nm q N bs bm sn sub ab col dd k0 k1 k2 k3 k5, K.lookup C = some (excClassObj nm q C N bs bm true sn sub ab col dd k0 k1 k2 k3 k5 "ValueError.__new__") ∧ PySem.HandSPX.refsVE bm = true
  ini : PySem.W.excInitIn K C [.type "ValueError", .type "Exception", .type "BaseException", .type "object"] "ValueError.__new__" = true
  sa : PySem.W.findIn K (.ref C) "__setattr__" = some (some (.builtin "object.__setattr__"))
  noN : PySem.W.findIn K (.ref C) f = some none
  iC : PySem.W.findIn K (.ref C) "__init__" = some (some (.ref fI))
  tI : PySem.W.typeIn K (.ref fI) = some (.type "function")
  sup : PySem.W.ks_superIn K C C "__init__" = some (some (.builtin "ValueError.__init__"))
  subV : PySem.W.subIn K (.ref C) (.type "ValueError") = some true
  mroC : PySem.W.mroIn K C (.ref C) = some true
  opq : PySem.W.nsIn K cStatics "thirdparty.any" = some none
  cell : ∃ oc od os, K.lookup cc = some ⟨oc, od, .cell (some (.ref C)), os⟩
  code : ∃ oc od vs os tf, K.lookup cda = some ⟨oc, od, .fields vs, os⟩ ∧ vs[2]? = some (.str file tf)
  fn : ∃ (oc : Value) (od : Option Addr) (kV doc pm : Value) (an : Option Addr) (ct : Value) (osl : Array (Option Value)),
    K.lookup fI = some ⟨oc, od, .func (PySem.W.ksFn "__init__" qual (defArgs st) (defBody st) (defScope st) .none kV doc pm an (.ref cda) ct cc), osl⟩ ∧ PySem.W.codeIn K (.ref cda) qual = true
/-- what is asked of the program -/
structure PF (P : Program) (file : Str) : Prop where
  file : ((P.main.file : Str) == file) = true
  top : (P.main.scope.names.lookup ("super" : Str)).isSome = false

section
variable {P : Program} {w : World} {A : Around} {R : Result → Shared → Prop} {K : PySem.W.Frag} {mg : Str → Option Value} {st : Stmt} {qual f txt file : Str} {C fI cc cda : Addr}
theorem xinit {h₀ : Heap} {x t0 : Addr} {v : Value} {s : Shared} (T : XI K st qual C fI cc cda f txt file) (pf : PF P file) (X₀ : K.In h₀) (hgl : h₀.Ns mainGlobals mg) (hms : mg "super" = none)
    (hb : ∃ mb, h₀.Ns builtinsNs mb ∧ ∀ y : Str, y ≠ "__name__" → mb y = bootBuiltins y) (keep : ∀ b o, h₀.get? b = some o → s.heap.get? b = some o) (hlim : s.heap.NoLimit)
    (hx : s.heap.get? x = some (HandSPX.excO C t0)) (hx0 : h₀.get? x = none) (hsz : h₀.objs.size ≤ s.heap.objs.size) (hroom : A.depth < recursionLimit)
    (hq : ∀ h' tk t1 dx, (∀ b o, h₀.get? b = some o → h'.get? b = some o) → h₀.objs.size ≤ dx → dx ≠ x → h'.get? x = some { cls := .ref C, dict := some dx, data := .fields #[.ref t1, .none, .none, .none, .bool false, .none] } →
      h'.Ns1 dx (fun y => if y = f then some v else none) → R (.ok (.ret .none)) { s with heap := h', toks := tk }) :
    codeAny (model P w) A (.call (.ref fI) ⟨[.ref x, v], []⟩) R s := by
  obtain ⟨oc, od, kV, doc, pm, an, ct, osl, ho, hcd⟩ := T.fn
  obtain ⟨k, p1, p2, a1, a2, a3, a4, a5, a6, b1, b2, b3, b4, eA, eB, eS, pl, hpl⟩ := T.shape
  rw [eA, eB, eS] at ho
  obtain ⟨nm, q, N, bs, bm, sn, sub, ab, col, dd, k0, k1, k2, k3, k5, hC, hbm⟩ := T.cls
  have hcl : PySem.W.clsIn K C = some { name := nm, bases := bs, mro := .ref C :: bm, ns := N, qualname := q, hasDict := true, slotNames := sn, subclasses := sub, abstract := ab, collection := col, hasDel := false } := by unfold PySem.W.clsIn; rw [hC] <;> rfl
  obtain ⟨cl, cld, csl, hcell⟩ := T.cell
  obtain ⟨ccl, cdd, vs, ccs, tf, hcode, hvs⟩ := T.code
  obtain ⟨mb, hbn, hbb⟩ := hb
  have nf := T.nf
  have X : K.In s.heap := X₀.keeps keep
  have lf : List.lookup f (iScope f).names = some NameKind.local := by
    have := nf.self
    simp [iScope, List.lookup, this]
  have ls : List.lookup (PySem.Str.ofString "self") (iScope f).names = some NameKind.local := by rfl
  have lc : List.lookup (PySem.Str.ofString "__class__") (iScope f).names = some NameKind.free := by
    have h1 : (PySem.Str.ofString "__class__" == PySem.Str.ofString "self") = false := by decide +kernel
    simp only [iScope, List.lookup, h1, nf.cls, beq_self_eq_true]
  have lp : List.lookup (PySem.Str.ofString "super") (iScope f).names = some NameKind.globalImplicit := by
    have h1 : (PySem.Str.ofString "super" == PySem.Str.ofString "self") = false := by decide +kernel
    have h2 : (PySem.Str.ofString "super" == PySem.Str.ofString "__class__") = false := by decide +kernel
    simp only [iScope, List.lookup, h1, h2, nf.sup, beq_self_eq_true]
  refine ks_codeAny_call_defAt (fd := PySem.W.ksFn "__init__" qual (iArgs f p1 p2) (iBody f txt k a1 a2 a3 a4 a5 a6 b1 b2 b3 b4) (iScope f) .none kV doc pm an (.ref cda) ct cc) (body := iBody f txt k a1 a2 a3 a4 a5 a6 b1 b2 b3 b4) (binds := [("self", .ref x), (f, v)])
    hroom (X _ _ ho) rfl hlim (PySem.W.codeRec_of X hcd) rfl (BindsTo.of_eq (nf.bnd _ _ _ _ _ _ _ _ _ _ _ _ _)) ?hcell ?hloc (fun h₁ hns hk => ?_) rfl rfl rfl
  case hcell =>
    intro y hy
    simp [iScope] at hy
    rcases hy with rfl | rfl | rfl | rfl <;> simp
  case hloc =>
    intro y hy
    simp at hy
    rcases hy with rfl | rfl
    · rfl
    · exact lf
  have X₁ : K.In h₁ := X.keeps hk
  have keep₁ : ∀ b o, h₀.get? b = some o → h₁.get? b = some o := fun b o e => hk b o (keep b o e)
  have hx₁ := hk _ _ hx
  have hsub : PySem.W.Looks (model P w) h₁ (isSubtype (.ref C) (.ref C)) true := PySem.W.looks_mroIn X₁ T.mroC
  -- super().__init__(text)
  refine ks_wpAt_execs_cons (ks_wpAt_Expr_any (ks_wpAt_MethodCall (pl := pl) (ks_wpAt_super_base (f := fI) (cc := cda) (vs := vs) (file := file) (tf := tf) (ar := { arg := "self", annotation := none, pos := p1 }) lp lc (by decide) rfl (X₁ _ _ ho) rfl rfl rfl (X₁ _ _ hcode) rfl hvs pf.file pf.top ?_) (hpl _)))
  refine PySem.W.ks_loadName_global ?ka ?kb ?_
  case ka => exact rfl
  case kb => exact lp
  refine Calls.loadGlobal_builtin (mg := mg) (mb := mb) (v := .type "super") ?ga hms ?gb ((hbb _ (by decide)).trans ?bs) ?_
  case ga => exact hgl.keeps keep₁
  case gb => exact hbn.keeps keep₁
  case bs => first | rfl | decide +kernel
  refine ⟨rfl, ?_⟩
  refine wpAny_loadName_free (c := cc) (v := .ref C) ?fa ?fb ?fc ?fd ?_
  case fa => exact rfl
  case fb => exact lc
  case fc => exact rfl
  case fd => exact ⟨_, X₁ _ _ hcell, rfl⟩
  have hself : List.lookup (PySem.Str.ofString "self") ([(PySem.Str.ofString "self", Value.ref x), (f, v)] : List (Str × Value)).reverse = some (.ref x) := by
    simp only [List.reverse_cons, List.reverse_nil, List.nil_append, List.cons_append, List.lookup, nf.self', beq_self_eq_true]
  have hval : List.lookup f ([(PySem.Str.ofString "self", Value.ref x), (f, v)] : List (Str × Value)).reverse = some v := by
    simp only [List.reverse_cons, List.reverse_nil, List.nil_append, List.cons_append, List.lookup, beq_self_eq_true]
  refine wpAny_loadName_local (v := .ref x) ?la ?lb hns hself ?_
  case la => exact rfl
  case lb => exact ls
  refine ks_wpAny_isType_cls (X₁ _ _ hC) rfl ⟨rfl, ?_⟩
  refine ks_wpAny_call_super (X₁ _ _ hC) rfl hx₁ rfl (fun c e => nomatch e) hsub (fun h₂ e₂ k₂ => ?_)
  have X₂ : K.In h₂ := X₁.keeps k₂
  have I₂ : PySem.W.InstAt h₂ x (HandSPX.excO C t0) C none := ⟨k₂ _ _ hx₁, rfl, rfl, trivial⟩
  refine PySem.W.kxs_getMethod PySem.W.kxs_ValueError e₂ (PySem.W.looks_opaque X₂ T.opq) (l₀ := .ref C :: bm) ?m1 rfl X₂ ?m2 ?m3 ?m4 (by decide) ?_
  case m1 => exact fun A Q E s k q => wpAny_bind ((PySem.W.looks_clsIn X₂ hcl) A _ E s k (wpAny_pure q))
  case m2 =>
    have e := T.sup
    unfold PySem.W.ks_superIn at e
    rw [hcl] at e
    exact e
  case m3 => exact I₂.type.andThen (PySem.W.looks_subIn X₂ T.subV)
  case m4 => exact PySem.W.ks_ne X₂ I₂ hcl
  -- the ledger: the wrapper, the exception
  have F₀ : PyProof.Rows.Fr h₀ s.heap.objs.size h₂ (fun y => List.lookup y ([(PySem.Str.ofString "self", Value.ref x), (f, v)] : List (Str × Value)).reverse) := ⟨hns.keeps k₂, fun b o e => k₂ b o (keep₁ b o e), hsz⟩
  have xL : x ≠ s.heap.objs.size := Nat.ne_of_lt (Heap.lt_size hx)
  have N₀ : PyProof.Rows.News h₀ s.heap.objs.size h₂ [(x, PySem.W.excObj C t0 none .none)] := by
    intro p hp
    obtain rfl : p = (x, PySem.W.excObj C t0 none .none) := List.mem_singleton.mp hp
    exact ⟨k₂ _ _ hx₁, xL, hx0⟩
  obtain ⟨F₃, N₃, l₃⟩ := PySem.W.ks_newsPush (s := ⟨h₂, s.gens, s.drawn, s.toks, s.os⟩) (h' := h₂.push (PySem.W.kxs_mw "ValueError.__init__" x)) (o := PySem.W.kxs_mw "ValueError.__init__" x) F₀ N₀ rfl (Heap.get?_push_at rfl rfl) (fun b o e => Heap.get?_push_of_some _ e)
  have nu : h₂.objs.size ≠ x := Nat.ne_of_gt (Heap.lt_size (k₂ _ _ hx₁))
  refine PySem.W.kxs_callWith1 N₃ List.mem_cons_self ?_
  show wpAny _ _ (spliced ((false, eval (.Constant (.str txt) k a4) _) :: [])) _ _ _
  refine Calls.spliced_cons (Calls.Constant_str (Calls.spliced_nil ⟨PySem.W.kxs_at N₃ List.mem_cons_self, ?_⟩))
  have FB := PySem.F.excBase_ValueError
  refine PySem.W.kxs_call (m := fun y => List.lookup y ([(PySem.Str.ofString "self", Value.ref x), (f, v)] : List (Str × Value)).reverse) F₃ X₀ N₃ FB T.ini List.mem_cons_self
    (PySem.W.UpdF.tail nu (PySem.W.UpdF.head (fun p hp => nomatch hp))) (by show 1 ≤ sizeLine; rw [sizeLine_eq]; decide) (fun t' h₄ F₄ N₄ l₄ => ?_)
  have X₄ : K.In h₄ := X₀.keeps F₄.keep
  have hx₄ : h₄.get? x = some (HandSPX.excO C t') := (N₄ (x, PySem.W.excObj C t' none .none) (by simp)).1
  -- self.f = f
  show PySem.wpAt _ _ _ (execs _ _) _ _ _
  refine wpAt_of_wpAny (wpAny_execs_cons (plainObj_wpAny_Assign_Attribute ?_))
  refine wpAny_Name (wpAny_loadName_local ?na ?nb F₄.ns hval ?_) nf.dbg
  case na => exact rfl
  case nb => exact lf
  refine wpAny_Name (wpAny_loadName_local ?oa ?ob F₄.ns hself ?_) (by decide)
  case oa => exact rfl
  case ob => exact ls
  refine PySem.W.set_plain X₄ (ox := HandSPX.excO C t') (od := none) ⟨hx₄, rfl, rfl, trivial⟩ T.sa ?_
  refine HandSPX.exc_osa X₄ hx₄ hcl (show HandSPX.refsVE (.ref C :: bm) = true from hbm) rfl T.noN (fun h₅ tk₅ dx k₅ dn dne hx₅ hn₅ => ?_)
  show wpAny _ _ (execs _ _) _ _ _
  have hle : h₀.objs.size ≤ dx := by
    have q : s.heap.objs.size < h₄.objs.size := F₄.ns.lt
    have dn' : h₄.objs.size ≤ dx := dn
    omega
  exact wpAny_execs_nil (hq h₅ tk₅ t' dx (fun b o e => k₅ b o (fun z => by rw [z, hx0] at e; cases e) (F₄.keep b o e)) hle dne hx₅ hn₅)

end
/-- C(v): a new exception with its own new dict that bears the field -/
def tNewF (C : Addr) (f : Str) (ta : TA) : TE := fun σ H Q => ta σ H fun vs H1 => ∃ v, vs = [v] ∧ ∀ a d, H1 a = none → H1 d = none → a ≠ d → Q (.ref a) (upd (upd H1 a (exo a C (some d))) d (exd d [(f, v)]))
theorem relO_one {f : Str} {v : V} {u : Value} (r : RelV v u) (g : Str) : RelO (([(f, v)] : List (Str × V)).lookup g) (if g = f then some u else none) := relO_put (fs := []) (mA := fun _ => none) r (fun _ => True.intro) g
theorem pe_newF {X : Cx} {st : Stmt} {qual f txt file x : Str} {C fI cc cda : Addr} {a : Expr} {ta : TA} {p pos : Pos} (T : XI X.K st qual C fI cc cda f txt file) (pf : PF X.prog file) (hms : X.mg "super" = none) {k : Nat} (hr : Room k X.A) (gC : X.mg x = some (.ref C)) (ha : PA X [a] ta) (hg : Gl X x := by rfl)
    (hdb : (x == ("__debug__" : Str)) = false := by decide) (he : starEach (a :: []) X.env = (false, eval a X.env) :: starEach [] X.env := by rfl) (hpl : (backTo pos (starEach [] X.env)).any (·.1) = false := by rfl) :
    PE X (.Call (.Name x p) [a] [] pos) (tNewF C f ta) := by
  refine ⟨fun pins s σ H Q I h => ?_⟩
  obtain ⟨nm, q, N, bs, bm, sn, sub, ab, col, dd, k0, k1, k2, k3, k5, hC, hbm⟩ := T.cls
  refine wpAny_Call_Name_kw (ld_glob I hg gC ?_ hdb)
  refine PySem.W.callWith_K (h₀ := X.base) I.ok.mod.kin T.xt.kp (thn (ha.run pos pins s σ H _ I h) fun us s1 hh => ?_) he hpl
  obtain ⟨vs, H1, I1, r1, v, ev, q1⟩ := hh
  subst ev
  refine ⟨I1.kIn, ?_⟩
  cases r1 with
  | cons rv rn =>
    rename_i v' us'
    cases rn
    show wpAny _ _ (call (.ref C) [v']) _ _ _
    have hlim := I1.nolimit
    have hK := I1.kIn
    have hgl : s1.heap.Ns mainGlobals X.mg := I1.mod.glob.keeps I1.bk
    have hbl : ∃ mb, s1.heap.Ns builtinsNs mb ∧ ∀ y : Str, y ≠ "__name__" → mb y = bootBuiltins y := by
      obtain ⟨mb, h1, h2⟩ := I1.mod.blt
      exact ⟨mb, h1.keeps I1.bk, h2⟩
    obtain ⟨hp, g, dr, tk, os⟩ := s1
    have kk : ∀ b o, hp.get? b = some o → ((hp.push (PySem.W.kdv_tup [v'])).push (HandSPX.excO C hp.objs.size)).get? b = some o := fun b o e => Heap.get?_push_of_some _ (Heap.get?_push_of_some _ e)
    have hget : ((hp.push (PySem.W.kdv_tup [v'])).push (HandSPX.excO C hp.objs.size)).get? (hp.objs.size + 1) = some (HandSPX.excO C hp.objs.size) := by heap_get
    have hnew : hp.get? (hp.objs.size + 1) = none := Heap.get?_none_of_le (Nat.le_succ _)
    refine wpAny_call (HandSPX.call_own F.excBase_ValueError (fun Y => HandSPX.refsVE_contains Y bm hbm) (hK _ _ hC) (PySem.W.looks_findIn hK T.iC) (fun self => PySem.W.bind_fn hK self T.tI) (by show 1 ≤ sizeLine; rw [sizeLine_eq]; decide) ?_)
    refine xinit (h₀ := hp) (mg := X.mg) T pf hK hgl hms hbl kk (hlim.keeps kk) hget hnew (by rw [Heap.size_push, Heap.size_push]; omega) ?_ (fun h' tk' t1 dx k' dn dne hx hns => ?_)
    · show X.A.depth + 1 < recursionLimit
      have := hr.dp
      omega
    refine ⟨rfl, ?_⟩
    show EP X pins σ Q (.ref (hp.objs.size + 1)) ⟨h', g, dr, tk', os⟩
    obtain ⟨G, g1, g2⟩ := restrict h' fun b => decide (b ≠ dx)
    have gk : ∀ b, b ≠ dx → G.get? b = h'.get? b := fun b hb => g1 b (decide_eq_true hb)
    have gd : G.get? dx = none := g2 dx (by simp)
    have old : ∀ b o, hp.get? b = some o → G.get? b = some o := fun b o e => (gk b (Nat.ne_of_lt (Nat.lt_of_lt_of_le (Heap.lt_size e) dn))).trans (k' b o e)
    have nd : H1 dx = none := I1.hok.fresh dn
    have na : H1 (hp.objs.size + 1) = none := I1.hok.fresh (Nat.le_succ _)
    have J1 : Inv X pins σ (upd H1 (hp.objs.size + 1) (exo (hp.objs.size + 1) C (some dx))) ⟨G, g, dr, tk', os⟩ := I1.laid (t' := tk') old (Nat.le_succ _) (exo_ok ((gk _ dne.symm).trans hx))
    have J2 : Inv X pins σ (upd (upd H1 (hp.objs.size + 1) (exo (hp.objs.size + 1) C (some dx))) dx (exd dx [(f, v)])) ⟨h', g, dr, tk', os⟩ := J1.laidN (t' := tk') (fun b u e => by
      by_cases hb : b = dx
      · have e' : G.get? b = some u := e
        rw [hb, gd] at e'
        cases e'
      · exact (gk b hb).symm.trans e) gd (by rw [upd_ne dne]; exact nd) (exd_ok hns (relO_one rv))
    exact ⟨.ref (hp.objs.size + 1), _, J2, rfl, q1 _ dx na nd dne.symm⟩
end Nm

/-! The law's bag of drawn numbers: _law_bag, _law_pick, _law_some. -/
namespace Nm
open PySem PySem.Spec PyProof.Rows L2

def topS (i : Nat) : Stmt := PySem.Challenge.pw_namedmoments_k04_whole_first_wrong_piece.main.body.getD i (.Pass ⟨0, 0, 0, 0⟩)
abbrev sBag : Stmt := topS 40
abbrev sPick : Stmt := topS 41
abbrev sSome : Stmt := topS 42

/-- the bag at b: its seed, how many were drawn (at most n), its great numbers at g, what is always drawn -/
structure BagAt (H : Hp) (b g : Addr) (n : Nat) : Prop where
  ne : b ≠ g
  bag : ∃ (seed c : Int) (al : V), H b = some (.lst [.int seed, .int c, .ref g, al]) ∧ 0 ≤ seed ∧ seed < 2147483648 ∧ 0 ≤ c ∧ c ≤ n ∧ (al = .non ∨ ∃ a, al = .int a ∧ 0 ≤ a)
  gr : ∃ gs : List Int, H g = some (.lst (gs.map V.int)) ∧ ∀ z ∈ gs, 0 ≤ z
theorem BagAt.mono {H : Hp} {b g : Addr} {n m : Nat} (h : BagAt H b g n) (e : n ≤ m) : BagAt H b g m := by
  obtain ⟨ne, ⟨seed, c, al, h1, h2, h3, h4, h5, h6⟩, gr⟩ := h
  exact ⟨ne, ⟨seed, c, al, h1, h2, h3, h4, by omega, h6⟩, gr⟩
/-- all but the bag's two lists is as it was -/
def KeptB (b g : Addr) (H H' : Hp) : Prop := ∀ c o, H c = some o → c ≠ b → c ≠ g → H' c = some o
theorem KeptB.refl {b g : Addr} (H : Hp) : KeptB b g H H := fun _ _ h _ _ => h
theorem KeptB.trans {b g : Addr} {H H1 H2 : Hp} (x : KeptB b g H H1) (y : KeptB b g H1 H2) : KeptB b g H H2 := fun c o h n1 n2 => y c o (x c o h n1 n2) n1 n2
/-- a place of the bag is kept under what is new -/
theorem BagAt.same {H H' : Hp} {b g : Addr} {n : Nat} (h : BagAt H b g n) (e : Same H H') : BagAt H' b g n := by
  obtain ⟨ne, ⟨seed, c, al, h1, h2⟩, gs, h3, h4⟩ := h
  exact ⟨ne, ⟨seed, c, al, e _ _ h1, h2⟩, gs, e _ _ h3, h4⟩

/-- the built-in words that these use are still the built-in ones -/
structure BltT (mg : Str → Option Value) : Prop where
  int : mg "int" = none
  len : mg "len" = none
  abs : mg "abs" = none
  sum : mg "sum" = none

section
variable {P : Program} {w : World} {K : PySem.W.Frag} {mg : Str → Option Value} {base : Heap}
/-! ### a number is drawn -/
def spPick : Sp := fun vs H Q _ => ∃ (b g : Addr) (n : Nat) (m : Int), vs = [.ref b, .int m] ∧ BagAt H b g n ∧ n < 1000000000000 ∧ 0 < m ∧ m < 2 ^ 1000 ∧
  ∀ (r : Int) (H' : Hp), 0 ≤ r → r < m → BagAt H' b g (n + 1) → KeptB b g H H' → Q (.int r) H'
theorem scPick : FnScope ["_law_bag_here", "_law_many", "_law_great", "_law_digit", "_law_number_here"] ["_law_bag_here", "_law_many"] (defScope sPick) := ⟨rfl, rfl, rfl, by decide +kernel, rfl, by decide +kernel, by decide +kernel⟩
theorem ok_pick {f : Addr} {fd : FuncData} {k : Nat} (F : Fun K "_law_pick" "_law_pick" sPick f fd) (T : BltT mg) : FnOk P w K mg base CX0 (k + 1) f fd ["_law_bag_here", "_law_many"] spPick := by
  refine F.ok scPick (fun vs H Q E h => ?_) (fun cdv A outer s H vs Q E hr h => ?_)
  · obtain ⟨b, g, n, m, rfl, _⟩ := h
    rfl
  · obtain ⟨b, g, n, m, rfl, B, hn, hm, hm2, q⟩ := h
    refine ⟨_, pss_cons (ps_if (pt_cmpR op_notN (pe_ix ix_list (pv 0) pe_int (fun _ _ => rfl)) pe_non (nomark _))
        (pss_one (ps_ret (pe_op op_mod (pe_callTy call_int1 (by rfl) T.int (by decide +kernel) (pa_cons (pe_ix ix_list (pv 0) pe_int (fun _ _ => rfl)) pa_nil)) (pv 1)))) pss_nil)
      (pss_cons (ps_asg (pe_op op_add (pe_ix ix_list (pv 0) pe_int (fun _ _ => rfl)) pe_int) (pg_sub (pv 0) pe_int set_list))
      (pss_cons (ps_set (i := 2) scPick.nd rfl (.inl rfl) (pe_ix ix_list (pv 0) pe_int (fun _ _ => rfl)))
      (pss_cons (ps_if (pt_cmpR op_gt (pe_callB call_len_seq (by rfl) T.len PySem.boot_len (pa_cons (pv 2) pa_nil)) pe_int (nomark _))
        (pss_cons (ps_set (i := 3) scPick.nd rfl (.inl rfl) (pe_op op_mod (pe_callTy call_int1 (by rfl) T.int (by decide +kernel) (pa_cons (pe_ix ix_list (pv 2) pe_int (fun _ _ => rfl)) pa_nil)) (pv 1)))
        (pss_cons (ps_asg (pe_op op_fdivW (pe_callTy call_int1 (by rfl) T.int (by decide +kernel) (pa_cons (pe_ix ix_list (pv 2) pe_int (fun _ _ => rfl)) pa_nil)) (pv 1)) (pg_sub (pv 2) pe_int set_list))
        (pss_cons (ps_if (pt_cmpR op_eq (pe_ix ix_list (pv 2) pe_int (fun _ _ => rfl)) pe_int (nomark _))
          (pss_one (ps_expr (pe_bm PySem.F.plainAttrs_list PySem.F.slot_list_pop PySem.F.type_list_pop mt_popAt (pv 2) (pa_cons pe_int pa_nil)))) pss_nil)
        (pss_one (ps_ret (pv 3)))))) pss_nil)
      (pss_cons (ps_set (i := 4) scPick.nd rfl (.inl rfl) (pe_op op_mod (pe_callTy call_int1 (by rfl) T.int (by decide +kernel) (pa_cons (pe_op op_mul (pe_op op_add (pe_ix ix_list (pv 0) pe_int (fun _ _ => rfl)) (pe_op op_mul pe_int (pe_ix ix_list (pv 0) pe_int (fun _ _ => rfl)))) pe_int) pa_nil)) pe_int))
      (pss_cons (ps_set (i := 4) scPick.nd rfl (.inl rfl) (pe_op op_mod (pe_callTy call_int1 (by rfl) T.int (by decide +kernel) (pa_cons (pe_op op_mul (pv 4) (pe_op op_add (pe_op op_fdiv (pv 4) pe_int) pe_int)) pa_nil)) pe_int))
      (pss_cons (ps_set (i := 4) scPick.nd rfl (.inl rfl) (pe_op op_mod (pe_callTy call_int1 (by rfl) T.int (by decide +kernel) (pa_cons (pe_op op_mul (pv 4) (pe_op op_add (pe_op op_fdiv (pv 4) pe_int) pe_int)) pa_nil)) pe_int))
      (pss_one (ps_ret (pe_op op_mod (pe_callTy call_int1 (by rfl) T.int (by decide +kernel) (pa_cons (pe_op op_fdiv (pv 4) pe_int) pa_nil)) (pv 1)))))))))), ?_⟩
    obtain ⟨ne, ⟨seed, c, al, hb, hs0, hs1, hc0, hc1, hal⟩, gs, hg, hgs⟩ := id B
    have hn' : n < 1000000000000 := hn
    have a3 : atI [V.int seed, .int c, .ref g, al] 3 = some al := rfl
    have a0 : ∀ y z : V, atI [V.int seed, y, .ref g, z] 0 = some (.int seed) := fun _ _ => rfl
    have a1 : atI [V.int seed, .int c, .ref g, al] 1 = some (.int c) := rfl
    refine ⟨_, rfl, b, _, 3, al, rfl, rfl, SqL.of hb, a3, rfl, _, rfl, ?_⟩
    rcases hal with rfl | ⟨a, rfl, ha⟩
    · -- nothing is always drawn
      refine iteF ?_
      -- bag[1] = bag[1] + 1
      refine ⟨_, rfl, b, _, 1, .int c, rfl, rfl, SqL.of hb, a1, c, 1, rfl, rfl, _, rfl, b, _, 1, 1, rfl, rfl, hb, rfl, ?_⟩
      obtain ⟨H1, eH1⟩ : ∃ H1, H1 = upd H b (.lst [.int seed, .int (c + 1), .ref g, .non]) := ⟨_, rfl⟩
      have hb1 : H1 b = some (.lst [.int seed, .int (c + 1), .ref g, .non]) := by rw [eH1, upd_same]
      have hg1 : H1 g = some (.lst (gs.map V.int)) := by rw [eH1, upd_ne ne.symm]; exact hg
      have k1 : KeptB b g H H1 := fun a o e n1 _ => by rw [eH1, upd_ne n1]; exact e
      show tSeq _ _ _ _ (upd H b (.lst [.int seed, .int (c + 1), .ref g, .non]))
      rw [← eH1]
      -- great = bag[2]; if len(great) > 0
      refine ⟨_, rfl, b, _, 2, .ref g, rfl, rfl, SqL.of hb1, rfl, ?_⟩
      refine ⟨_, rfl, g, _, rfl, .inl (SqL.of hg1), _, _, rfl, rfl, _, rfl, ?_⟩
      rcases gs with _ | ⟨z, gs⟩
      · refine ite2 (fun h => absurd h (by decide)) (fun _ => ?_)
        have hx0 : 0 ≤ (seed + 7919 * (c + 1)) * 48271 := Int.mul_nonneg (by omega) (by decide)
        have b1 : -(2 ^ 64) < seed + 7919 * (c + 1) ∧ seed + 7919 * (c + 1) < 2 ^ 64 := by omega
        refine ⟨_, rfl, b, _, 0, .int seed, rfl, rfl, SqL.of hb1, rfl, _, rfl, b, _, 1, .int (c + 1), rfl, rfl, SqL.of hb1, rfl, 7919, c + 1, rfl, rfl, .inl (by decide), seed, 7919 * (c + 1), rfl, rfl, _, 48271, rfl, rfl, .inl b1, .inl ⟨_, rfl, _, 2147483647, rfl, rfl, (show (0 : Int) < 2147483647 by decide), ?_⟩⟩
        obtain ⟨y0, ey0⟩ : ∃ y, y = (seed + 7919 * (c + 1)) * 48271 % 2147483647 := ⟨_, rfl⟩
        have y00 : 0 ≤ y0 := by rw [ey0]; exact Int.emod_nonneg _ (by decide)
        have y01 : y0 < 2147483648 := by rw [ey0]; exact Int.lt_trans (Int.emod_lt_of_pos _ (by decide)) (by decide)
        show gName 4 (V.int ((seed + 7919 * (c + 1)) * 48271 % 2147483647)) _ _ _
        rw [← ey0]
        refine ⟨_, rfl, _, rfl, y0, 1009, rfl, rfl, ⟨by decide, by decide⟩, _, 69621, rfl, rfl, y0, _, rfl, rfl, .inl (by omega), .inl ⟨_, rfl, _, 2147483647, rfl, rfl, (show (0 : Int) < 2147483647 by decide), ?_⟩⟩
        obtain ⟨y1, ey1⟩ : ∃ y, y = y0 * (y0 / 1009 + 69621) % 2147483647 := ⟨_, rfl⟩
        have y10 : 0 ≤ y1 := by rw [ey1]; exact Int.emod_nonneg _ (by decide)
        have y11 : y1 < 2147483648 := by rw [ey1]; exact Int.lt_trans (Int.emod_lt_of_pos _ (by decide)) (by decide)
        show gName 4 (V.int (y0 * (y0 / 1009 + 69621) % 2147483647)) _ _ _
        rw [← ey1]
        refine ⟨_, rfl, _, rfl, y1, 2003, rfl, rfl, ⟨by decide, by decide⟩, _, 40692, rfl, rfl, y1, _, rfl, rfl, .inl (by omega), .inl ⟨_, rfl, _, 2147483399, rfl, rfl, (show (0 : Int) < 2147483399 by decide), ?_⟩⟩
        obtain ⟨y2, ey2⟩ : ∃ y, y = y1 * (y1 / 2003 + 40692) % 2147483399 := ⟨_, rfl⟩
        show gName 4 (V.int (y1 * (y1 / 2003 + 40692) % 2147483399)) _ _ _
        rw [← ey2]
        refine ⟨_, rfl, y2, 16, rfl, rfl, ⟨by decide, by decide⟩, .inl ⟨_, rfl, _, rfl, _, m, rfl, rfl, hm, ?_⟩⟩
        exact q _ _ (Int.emod_nonneg _ (by omega)) (Int.emod_lt_of_pos _ hm) ⟨ne, ⟨seed, c + 1, .non, hb1, hs0, hs1, by omega, by omega, .inl rfl⟩, [], hg1, fun _ h => nomatch h⟩ k1
      · refine ite2 (fun _ => ?_) (fun h => absurd h (by simp))
        have hz : 0 ≤ z := hgs z List.mem_cons_self
        have a0' : atI (((z :: gs) : List Int).map V.int) 0 = some (.int z) := atI_nat (j := 0) rfl
        have i0 : ixN (((z :: gs) : List Int).map V.int).length 0 = some 0 := by
          have e := PyProof.Rows.seqIndex?_zero (n := (((z :: gs) : List Int).map V.int).length) (by simp)
          unfold ixN
          simpa using e
        refine ⟨_, rfl, g, _, 0, .int z, rfl, rfl, SqL.of hg1, a0', .inl ⟨z, rfl, _, rfl, z, m, rfl, rfl, hm, ?_⟩⟩
        refine ⟨_, rfl, g, _, 0, .int z, rfl, rfl, SqL.of hg1, a0', .inl ⟨z, rfl, _, rfl, z, m, rfl, rfl, wide_div (b := 1000) hm (show m.natAbs < 2 ^ 1000 by omega) (by decide) (by decide), _, rfl, g, _, 0, 0, rfl, rfl, hg1, i0, ?_⟩⟩
        obtain ⟨H2, eH2⟩ : ∃ H2, H2 = upd H1 g (.lst (.int (z / m) :: gs.map V.int)) := ⟨_, rfl⟩
        have hg2 : H2 g = some (.lst (.int (z / m) :: gs.map V.int)) := by rw [eH2, upd_same]
        have hb2 : H2 b = some (.lst [.int seed, .int (c + 1), .ref g, .non]) := by rw [eH2, upd_ne ne]; exact hb1
        have k2 : KeptB b g H H2 := fun a o e n1 n2 => by rw [eH2, upd_ne n2]; exact k1 a o e n1 n2
        show tSeq _ _ _ _ (upd H1 g (.lst (.int (z / m) :: gs.map V.int)))
        rw [← eH2]
        have hq : 0 ≤ z / m := Int.ediv_nonneg hz (by omega)
        have r0 : 0 ≤ z % m := Int.emod_nonneg _ (by omega)
        have r1 : z % m < m := Int.emod_lt_of_pos _ hm
        have a0'' : atI (V.int (z / m) :: gs.map V.int) 0 = some (.int (z / m)) := atI_nat (j := 0) rfl
        refine ⟨_, rfl, g, _, 0, .int (z / m), rfl, rfl, SqL.of hg2, a0'', rfl, _, rfl, ?_⟩
        refine ite2 (fun _ => ?_) (fun _ => ?_)
        · refine ⟨.ref g, rfl, .inl ⟨rfl, _, SqL.of hg2⟩, g, _, 0, 0, .int (z / m), rfl, rfl, hg2, by decide, by decide, ?_, rfl, ?_⟩
          · exact PyProof.Rows.seqIndex?_zero (by simp)
          refine ⟨_, rfl, q _ _ r0 r1 ⟨ne, ⟨seed, c + 1, .non, ?_, hs0, hs1, by omega, by omega, .inl rfl⟩, gs, ?_, fun y hy => hgs y (List.mem_cons_of_mem _ hy)⟩ fun a o e n1 n2 => ?_⟩
          · rw [upd_ne ne]; exact hb2
          · rw [upd_same]; rfl
          · rw [upd_ne n2]; exact k2 a o e n1 n2
        · refine ⟨_, rfl, q _ _ r0 r1 ⟨ne, ⟨seed, c + 1, .non, hb2, hs0, hs1, by omega, by omega, .inl rfl⟩, z / m :: gs, hg2, fun y hy => ?_⟩ k2⟩
          rcases List.mem_cons.mp hy with rfl | hy
          · exact hq
          · exact hgs y (List.mem_cons_of_mem _ hy)
    · refine iteT ?_
      refine ⟨_, rfl, b, _, 3, _, rfl, rfl, SqL.of hb, a3, .inl ⟨a, rfl, _, rfl, a, m, rfl, rfl, hm, ?_⟩⟩
      exact q _ _ (Int.emod_nonneg _ (by omega)) (Int.emod_lt_of_pos _ hm) (B.mono (Nat.le_succ n)) (KeptB.refl H)
/-! ### one of a list is drawn -/
def spSome : Sp := fun vs H Q _ => ∃ (b g t : Addr) (n : Nat) (xs : List V), vs = [.ref b, .ref t] ∧ BagAt H b g n ∧ n < 1000000000000 ∧ H t = some (.lst xs) ∧ t ≠ b ∧ t ≠ g ∧ 0 < xs.length ∧ xs.length ≤ 1000 ∧
  ∀ (j : Nat) (v : V) (H' : Hp), xs[j]? = some v → BagAt H' b g (n + 1) → KeptB b g H H' → Q v H'
theorem scSome : FnScope ["_law_bag_here", "_law_things"] ["_law_bag_here", "_law_things"] (defScope sSome) := ⟨rfl, rfl, rfl, by decide +kernel, rfl, by decide +kernel, by decide +kernel⟩
theorem ok_some {f fP : Addr} {fd fdP : FuncData} {k : Nat} (F : Fun K "_law_some" "_law_some" sSome f fd) (T : BltT mg) (FP : Fun K "_law_pick" "_law_pick" sPick fP fdP) (bP : Binds K fdP ["_law_bag_here", "_law_many"] []) (gP : mg "_law_pick" = some (.ref fP)) :
    FnOk P w K mg base CX0 (k + 2) f fd ["_law_bag_here", "_law_things"] spSome := by
  have GP : FnOk P w K mg base CX0 (k + 1) fP fdP ["_law_bag_here", "_law_many"] spPick := ok_pick FP T
  refine F.ok scSome (fun vs H Q E h => ?_) (fun cdv A outer s H vs Q E hr h => ?_)
  · obtain ⟨b, g, t, n, xs, rfl, _⟩ := h
    rfl
  · obtain ⟨b, g, t, n, xs, rfl, B, hn, ht, ntb, ntg, h0, h1, q⟩ := h
    refine ⟨_, pss_one (ps_ret (pe_ix ix_list (pv 1) (pe_call GP hr rfl gP FP.kp bP .nil pass0 (pa_cons (pv 0) (pa_cons (pe_callB call_len_seq (by rfl) T.len PySem.boot_len (pa_cons (pv 1) pa_nil)) pa_nil))) (fun _ _ => rfl))), ?_⟩
    refine ⟨_, rfl, _, rfl, _, rfl, t, _, rfl, .inl (SqL.of ht), b, g, n, (xs.length : Int), rfl, B, hn, by omega, ?_, fun r H' r0 r1 B' kb => ?_⟩
    · exact Int.lt_of_le_of_lt (show (xs.length : Int) ≤ 1000 by omega) (by decide)
    · obtain ⟨j, rfl⟩ : ∃ j : Nat, r = (j : Int) := ⟨r.toNat, by omega⟩
      have hj : j < xs.length := by omega
      have hv : xs[j]? = some xs[j] := List.getElem?_eq_getElem hj
      refine ⟨t, xs, (j : Int), xs[j], rfl, rfl, SqL.of (kb t _ ht ntb ntg), atI_nat hv, ?_⟩
      exact q j _ H' hv B' kb
/-! ### the bag is made -/
theorem cut63 {xs : List V} (h : xs.length ≤ 63) : cutV xs none (some 63) = xs := by
  unfold cutV
  rw [show HT.sIx xs.length xs.length (some 63) = min 63 xs.length from HT.sIx_nat xs.length xs.length 63, HT.sIx_none, Nat.sub_zero, List.drop_zero]
  exact List.take_of_length_le (by omega)
theorem same_upd {H : Hp} {p : Addr} {o : HO} (h : H p = none) : Same H (upd H p o) := fun b x e => by
  rw [upd_ne (ne_of_none e h)]
  exact e
theorem ints_at {ns : List Int} {i : Nat} {y : V} (h : (ns.map V.int)[i]? = some y) : ∃ z, ns[i]? = some z ∧ y = V.int z := by
  rw [List.getElem?_map] at h
  cases e : ns[i]? with
  | none =>
    rw [e] at h
    cases h
  | some z =>
    rw [e] at h
    exact ⟨z, rfl, (Option.some.inj h).symm⟩
def spBag (K : PySem.W.Frag) : Sp := fun vs H Q _ => ∃ (a : Addr) (ns : List Int), vs = [.ref a] ∧ SqL K H a (ns.map V.int) ∧ ns.length ≤ 63 ∧
  ∀ (b g : Addr) (H' : Hp), Same H H' → H b = none → H g = none → BagAt H' b g 1 → Q (.ref b) H'
theorem scBag : FnScope ["_law_script", "_law_seed", "_law_cell", "_law_great", "_law_always"] ["_law_script"] (defScope sBag) := ⟨rfl, rfl, rfl, by decide +kernel, rfl, by decide +kernel, by decide +kernel⟩
theorem ok_bag {f : Addr} {fd : FuncData} {k : Nat} (F : Fun K "_law_bag" "_law_bag" sBag f fd) (T : BltT mg) : FnOk P w K mg base CX0 (k + 1) f fd ["_law_script"] (spBag K) := by
  refine F.ok scBag (fun vs H Q E h => ?_) (fun cdv A outer s H vs Q E hr h => ?_)
  · obtain ⟨a, ns, rfl, _⟩ := h
    rfl
  · obtain ⟨a, ns, rfl, hS, hlen, q⟩ := h
    refine ⟨_, pss_cons (ps_set (i := 1) scBag.nd rfl (.inl rfl) (pe_op op_add pe_int (pe_callB call_len_seq (by rfl) T.len PySem.boot_len (pa_cons (pv 0) pa_nil))))
      (pss_cons (ps_for PassesOwn.never rfl (pi_list (pe_slice sl_list (pv 0) po_none (po_some pe_int))) (pg_name (i := 2) scBag.nd rfl (Or.inl rfl))
        (pss_one (ps_set (i := 1) scBag.nd rfl (.inl rfl) (pe_op op_mod (pe_callTy call_int1 (by rfl) T.int (by decide +kernel) (pa_cons (pe_op op_add (pe_op op_add (pe_op op_mul (pv 1) pe_int) (pe_op op_mod (pe_callTy call_int1 (by rfl) T.int (by decide +kernel) (pa_cons (pv 2) pa_nil)) pe_int)) pe_int) pa_nil)) pe_int))))
      (pss_cons (ps_setLc (i := 3) (own := [("_law_cell", 2)]) (g := gName 2) (by rfl) scBag.nd rfl rfl (sw_true rfl rfl rfl (by decide +kernel)) (pi_list (pe_slice sl_list (pv 0) po_none (po_some pe_int)))
          (blkOk_by (N := ["_law_script", "_law_seed", "_law_cell", "_law_great", "_law_always"]) (sc := defScope sBag) (by decide +kernel)) (fun _ _ _ _ _ => pg_name (i := 2) scBag.nd rfl (Or.inl rfl))
          (fun _ _ _ _ _ => pts_one (pt_cmpR op_ge (pe_callB call_abs (by rfl) T.abs (by decide +kernel) (pa_cons (pe_callTy call_int1 (by rfl) T.int (by decide +kernel) (pa_cons (pv 2) pa_nil)) pa_nil)) (pe_op op_pow pe_int pe_int) (nomark _)))
          (fun _ _ _ _ _ => pe_callB call_abs (by rfl) T.abs (by decide +kernel) (pa_cons (pe_callTy call_int1 (by rfl) T.int (by decide +kernel) (pa_cons (pv 2) pa_nil)) pa_nil)))
      (pss_cons (ps_set (i := 4) scBag.nd rfl (.inl rfl) pe_non)
      (pss_cons (ps_if (PW.pt (pw_and (pt_cmpR op_lt (pe_callB call_len_seq (by rfl) T.len PySem.boot_len (pa_cons (pv 0) pa_nil)) pe_int (nomark _)) (pw_and1 (pt_cmpR op_eq (pe_callB call_len_seq (by rfl) T.len PySem.boot_len (pa_cons (pv 3) pa_nil)) pe_int (nomark _)))))
        (pss_one (ps_set (i := 4) scBag.nd rfl (.inl rfl) (pe_callB call_abs (by rfl) T.abs (by decide +kernel) (pa_cons (pe_callB (cr_sum rfl) (by rfl) T.sum (by decide +kernel) (pa_cons
          (pe_lc (own := [("_law_cell", 2)]) (g := gName 2) (tt := tYes) rfl scBag.nd (pi_list (pv 0)) (blkOk_by (N := ["_law_script", "_law_seed", "_law_cell", "_law_great", "_law_always"]) (sc := defScope sBag) (by decide +kernel)) (fun _ _ _ _ _ => pg_name (i := 2) scBag.nd rfl (Or.inl rfl)) (fun _ _ _ _ _ => pts_nil)
            (fun _ _ _ _ _ => pe_callTy call_int1 (by rfl) T.int (by decide +kernel) (pa_cons (pv 2) pa_nil))) pa_nil)) pa_nil)))) pss_nil)
      (pss_one (ps_ret (pe_lst (pa_cons (pv 1) (pa_cons pe_int (pa_cons (pv 3) (pa_cons (pv 4) pa_nil))))))))))), ?_⟩
    have e63 : cutV (ns.map V.int) none (some 63) = ns.map V.int := cut63 (by simpa using hlen)
    refine ⟨_, rfl, a, _, rfl, .inl hS, _, _, rfl, rfl, ?_⟩
    refine ⟨.ref a, rfl, 63, rfl, a, ns.map V.int, rfl, hS, fun c nc => ⟨c, rfl, ⟨_, SqL.of upd_same⟩, ?_⟩⟩
    rw [e63]
    obtain ⟨H1, eH1⟩ : ∃ H1, H1 = upd H c (.lst (ns.map V.int)) := ⟨_, rfl⟩
    have s1 : Same H H1 := by rw [eH1]; exact same_upd nc
    have hc1 : H1 c = some (.lst (ns.map V.int)) := by rw [eH1, upd_same]
    rw [← eH1]
    refine for_list (K := K) (a := c) (xs := ns.map V.int) (fun i σ H2 => ∃ (sd : Int) (y : Option V), σ = [some (.ref a), some (.int sd), y, none, none] ∧ 0 ≤ sd ∧ sd < 2147483648 ∧ H2 = H1)
      ⟨_, none, rfl, by rw [List.length_map]; omega, by rw [List.length_map]; omega, rfl⟩ (fun i σ H2 _ ⟨_, _, _, _, _, e⟩ => by rw [e]; exact SqL.of hc1) ?_ ?_
    · rintro i y σ H2 hi ⟨sd, y0, rfl, h0, h1, rfl⟩
      obtain ⟨z, hz, rfl⟩ := ints_at hi
      refine ⟨_, rfl, sd, 69621, rfl, rfl, .inl (by omega), _, rfl, .inl ⟨z, rfl, z, 1000003, rfl, rfl, (show (0 : Int) < 1000003 by decide), _, _, rfl, rfl, _, 7, rfl, rfl, .inl ⟨_, rfl, _, 2147483647, rfl, rfl, (show (0 : Int) < 2147483647 by decide), ?_⟩⟩⟩
      exact ⟨_, some (.int z), rfl, Int.emod_nonneg _ (by decide), Int.lt_trans (Int.emod_lt_of_pos _ (by decide)) (by decide), rfl⟩
    · rintro σ H2 ⟨sd, y0, rfl, h0, h1, rfl⟩
      refine ⟨.ref a, rfl, 63, rfl, a, ns.map V.int, rfl, s1.seq hS, fun c2 nc2 => ⟨c2, rfl, ⟨_, SqL.of upd_same⟩, ?_⟩⟩
      rw [e63]
      obtain ⟨H3, eH3⟩ : ∃ H3, H3 = upd H2 c2 (.lst (ns.map V.int)) := ⟨_, rfl⟩
      have s3 : Same H2 H3 := by rw [eH3]; exact same_upd nc2
      have hc3 : H3 c2 = some (.lst (ns.map V.int)) := by rw [eH3, upd_same]
      rw [← eH3]
      intro D hD
      refine lc_list (K := K) (a := c2) (xs := ns.map V.int) (fun i H4 => ∃ gs : List Int, H4 = upd H3 D (.lst (gs.map V.int)) ∧ (∀ z ∈ gs, 0 ≤ z) ∧ gs.length ≤ i)
        ⟨[], rfl, (fun _ h => nomatch h), Nat.le_refl _⟩ (fun i H4 _ ⟨gs, e, _, _⟩ => by rw [e]; exact (same_upd hD).seq (SqL.of hc3)) ?_ ?_
      · rintro i y H4 hi ⟨gs, rfl, hg, hl⟩
        obtain ⟨z, hz, rfl⟩ := ints_at hi
        have hi' : i < ns.length := (List.getElem?_eq_some_iff.mp hz).1
        refine ⟨rfl, _, rfl, .inl ⟨z, rfl, z, rfl, 10, 18, rfl, rfl, ⟨by decide, by decide, by decide⟩, _, _, rfl, rfl, _, rfl, ?_⟩⟩
        refine ite2 (fun _ => ?_) (fun _ => ⟨gs, rfl, hg, by omega⟩)
        refine ⟨_, rfl, .inl ⟨z, rfl, z, rfl, _, upd_same, ?_, gs ++ [if z < 0 then -z else z], ?_, ?_, ?_⟩⟩
        · rw [List.length_map, sizeLine_eq]; omega
        · rw [upd_upd, List.map_append]; rfl
        · intro x hx
          rcases List.mem_append.mp hx with hx | hx
          · exact hg x hx
          · obtain rfl := List.mem_singleton.mp hx
            split <;> omega
        · rw [List.length_append]; show gs.length + 1 ≤ i + 1; omega
      · rintro H4 ⟨gs, rfl, hg, hl⟩
        have s4 : Same H (upd H3 D (.lst (gs.map V.int))) := (s1.trans s3).trans (same_upd hD)
        have fD : H D = none := (s1.trans s3).free hD
        have fin : ∀ (al : V) (H5 : Hp), (al = .non ∨ ∃ a, al = .int a ∧ 0 ≤ a) → Same H H5 → H5 D = some (.lst (gs.map V.int)) → 4 ≤ sizeLine ∧ ∀ l, H5 l = none → Q (.ref l) (upd H5 l (.lst [.int sd, .int 1, .ref D, al])) := by
          intro al H5 hal s5 h5
          refine ⟨by decide, fun l hl => ?_⟩
          have nDl : D ≠ l := ne_of_none h5 hl
          refine q l D _ (s5.trans (same_upd hl)) (s5.free hl) fD ⟨nDl.symm, ⟨sd, 1, al, upd_same, h0, h1, by decide, by decide, hal⟩, gs, by rw [upd_ne nDl]; exact h5, hg⟩
        refine ⟨_, rfl, a, _, rfl, .inl (s4.seq hS), _, 2, rfl, rfl, _, rfl, ?_⟩
        refine ite2 (fun c1 => ?_) (fun _ => ?_)
        · refine ⟨_, rfl, D, _, rfl, .inl (SqL.of upd_same), rfl, _, rfl, ?_⟩
          refine ite2 (fun c2 => ?_) (fun _ => ?_)
          · refine ⟨.ref a, rfl, a, rfl, ⟨_, s4.seq hS⟩, fun D2 hD2 => ?_⟩
            refine lc_list (K := K) (a := a) (xs := ns.map V.int) (fun i H5 => H5 = upd (upd H3 D (.lst (gs.map V.int))) D2 (.lst ((ns.take i).map V.int))) rfl (fun i H5 _ e => by rw [e]; exact (same_upd hD2).seq (s4.seq hS)) ?_ ?_
            · rintro i y H5 hi rfl
              obtain ⟨z, hz, rfl⟩ := ints_at hi
              refine ⟨rfl, ?_⟩
              unfold tYes
              dsimp only
              rw [if_pos rfl]
              refine ⟨_, rfl, .inl ⟨z, rfl, _, upd_same, ?_, ?_⟩⟩
              · rw [List.length_map, List.length_take, sizeLine_eq]; omega
              · rw [upd_upd]
                have e : ns.take (i + 1) = ns.take i ++ [z] := by rw [List.take_add_one, hz]; rfl
                rw [e, List.map_append]; rfl
            · rintro H5 rfl
              refine ⟨D2, _, rfl, SqL.of upd_same, _, rfl, ?_⟩
              have nD : D ≠ D2 := ne_of_none upd_same hD2
              refine ⟨_, rfl, _, rfl, _, rfl, fin _ _ (.inr ⟨_, rfl, ?_⟩) (s4.trans (same_upd hD2)) (by rw [upd_ne nD]; exact upd_same)⟩
              split <;> omega
          · exact ⟨_, rfl, _, rfl, _, rfl, fin .non _ (.inl rfl) s4 upd_same⟩
        · exact ⟨_, rfl, _, rfl, _, rfl, fin .non _ (.inl rfl) s4 upd_same⟩
end
end Nm

/-! Plain data in the heap, kept under what changes elsewhere; the law's own sameness of data. -/
namespace Nm
open PySem PySem.Spec PyProof.Rows L2

/-! ### data whose places all lie in S -/
mutual
inductive DS (S : Addr → Prop) (H : Hp) : V → PyData → Prop
  | non : DS S H .non .none
  | bl (b : Bool) : DS S H (.bl b) (.bool b)
  | int (i : Int) : DS S H (.int i) (.int i)
  | str (x : Str) : DS S H (.str x) (.str x)
  | lst {a : Addr} {xs : List V} {ds : List PyData} : S a → H a = some (.lst xs) → DSs S H xs ds → DS S H (.ref a) (.list ds)
  | tup {a : Addr} {xs : List V} {ds : List PyData} : S a → H a = some (.tup xs) → DSs S H xs ds → DS S H (.ref a) (.tuple ds)
inductive DSs (S : Addr → Prop) (H : Hp) : List V → List PyData → Prop
  | nil : DSs S H [] []
  | cons {v : V} {vs : List V} {d : PyData} {ds : List PyData} : DS S H v d → DSs S H vs ds → DSs S H (v :: vs) (d :: ds)
end
section
variable {S S' : Addr → Prop} {H H' : Hp}
mutual
theorem DS.keep (k : ∀ a o, S a → H a = some o → S' a ∧ H' a = some o) : ∀ {v : V} {d : PyData}, DS S H v d → DS S' H' v d
  | _, _, .non => .non
  | _, _, .bl b => .bl b
  | _, _, .int i => .int i
  | _, _, .str x => .str x
  | _, _, .lst s h r => .lst (k _ _ s h).1 (k _ _ s h).2 (DSs.keep k r)
  | _, _, .tup s h r => .tup (k _ _ s h).1 (k _ _ s h).2 (DSs.keep k r)
theorem DSs.keep (k : ∀ a o, S a → H a = some o → S' a ∧ H' a = some o) : ∀ {vs : List V} {ds : List PyData}, DSs S H vs ds → DSs S' H' vs ds
  | _, _, .nil => .nil
  | _, _, .cons x r => .cons (DS.keep k x) (DSs.keep k r)
end
mutual
theorem DS.dp {K : PySem.W.Frag} : ∀ {v : V} {d : PyData}, DS S H v d → Dp K H v d
  | _, _, .non => .non
  | _, _, .bl b => .bl b
  | _, _, .int i => .int i
  | _, _, .str x => .str x
  | _, _, .lst s h r => .lst (SqL.of h) (DSs.dp r)
  | _, _, .tup s h r => .tup (SqT.of h) (DSs.dp r)
theorem DSs.dp {K : PySem.W.Frag} : ∀ {vs : List V} {ds : List PyData}, DSs S H vs ds → DpAll K H vs ds
  | _, _, .nil => .nil
  | _, _, .cons x r => .cons (DS.dp x) (DSs.dp r)
end
end
theorem Same.seqT {K : PySem.W.Frag} {H H' : Hp} {a : Addr} {xs : List V} (e : Same H H') (h : SqT K H a xs) : SqT K H' a xs := by
  rcases h with (h | ⟨o, h⟩) | h
  · exact .inl (.inl (e _ _ h))
  · exact .inl (.inr ⟨o, e _ _ h⟩)
  · exact .inr h
mutual
theorem Dp.same {K : PySem.W.Frag} {H H' : Hp} (e : Same H H') : ∀ {v : V} {d : PyData}, Dp K H v d → Dp K H' v d
  | _, _, .non => .non
  | _, _, .bl b => .bl b
  | _, _, .int i => .int i
  | _, _, .str x => .str x
  | _, _, .lst h r => .lst (e.seq h) (DpAll.same e r)
  | _, _, .tup h r => .tup (Nm.Same.seqT e h) (DpAll.same e r)
theorem DpAll.same {K : PySem.W.Frag} {H H' : Hp} (e : Same H H') : ∀ {vs : List V} {ds : List PyData}, DpAll K H vs ds → DpAll K H' vs ds
  | _, _, .nil => .nil
  | _, _, .cons x r => .cons (Dp.same e x) (DpAll.same e r)
end

/-! ### the law's own sameness -/
def isT : PyData → Bool | .tuple _ => true | _ => false
def isL : PyData → Bool | .list _ => true | _ => false
def isB : PyData → Bool | .bool _ => true | _ => false
mutual
def isD : PyData → PyData → Bool
  | .tuple xs, .tuple ys => isDs xs ys
  | .list xs, .list ys => isDs xs ys
  | _, .tuple _ => false
  | _, .list _ => false
  | x, y => (isB x == isB y) && PyData.eqv x y
def isDs : List PyData → List PyData → Bool
  | [], [] => true
  | x :: xs, y :: ys => isD x y && isDs xs ys
  | _, _ => false
end
theorem sh_all : ∀ {xs : List PyData}, PyData.canLayAll0 xs = true → PyData.depthAll xs ≤ 64 → ∀ d ∈ xs, SeqAt.shaped d = true
  | [], _, _, d, h => nomatch h
  | x :: xs, h1, h2, d, h => by
    have h1' : (PyData.canLay0 x && PyData.canLayAll0 xs) = true := h1
    obtain ⟨a, b⟩ := Bool.and_eq_true_iff.mp h1'
    have h2' : max (PyData.depth x) (PyData.depthAll xs) ≤ 64 := h2
    rcases List.mem_cons.mp h with rfl | h
    · unfold SeqAt.shaped
      rw [a, Bool.true_and]
      exact decide_eq_true (by omega)
    · exact sh_all b (by omega) d h
theorem sh_list {xs : List PyData} (h : SeqAt.shaped (.list xs) = true) : ∀ d ∈ xs, SeqAt.shaped d = true := by
  obtain ⟨a, b⟩ := Bool.and_eq_true_iff.mp h
  have b' : PyData.depthAll xs + 1 ≤ 64 := of_decide_eq_true b
  exact sh_all a (by omega)
theorem sh_tup {xs : List PyData} (h : SeqAt.shaped (.tuple xs) = true) : ∀ d ∈ xs, SeqAt.shaped d = true := by
  obtain ⟨a, b⟩ := Bool.and_eq_true_iff.mp h
  have b' : PyData.depthAll xs + 1 ≤ 64 := of_decide_eq_true b
  exact sh_all a (by omega)
mutual
theorem isD_refl : ∀ {d : PyData}, SeqAt.shaped d = true → isD d d = true
  | .none, _ => rfl
  | .bool b, _ => by cases b <;> rfl
  | .int i, _ => by show (true && (i == i)) = true; simp
  | .str x, _ => by show (true && (x == x)) = true; simp
  | .list xs, h => isDs_refl (xs := xs) (sh_list h)
  | .tuple xs, h => isDs_refl (xs := xs) (sh_tup h)
  | .dict _, h => absurd h (by simp [SeqAt.shaped, PyData.canLay0])
theorem isDs_refl : ∀ {xs : List PyData}, (∀ d ∈ xs, SeqAt.shaped d = true) → isDs xs xs = true
  | [], _ => rfl
  | x :: xs, h => by
    show (isD x x && isDs xs xs) = true
    rw [isD_refl (h x List.mem_cons_self), isDs_refl fun d hd => h d (List.mem_cons_of_mem _ hd)]
    rfl
end
def tyN : PyData → String
  | .none => "NoneType" | .bool _ => "bool" | .int _ => "int" | .str _ => "str" | .list _ => "list" | .tuple _ => "tuple" | .dict _ => "dict"
theorem dp_ty {K : PySem.W.Frag} {H : Hp} {x : V} {d : PyData} (h : Dp K H x d) : TyX K H x (.type (tyN d)) := by
  cases h with
  | non => exact .base .non
  | bl b => exact .base (.bl b)
  | int i => exact .base (.int i)
  | str x => exact .base (.str x)
  | lst h _ =>
    rcases h with (h | ⟨o, h⟩) | ⟨o, its, n, h1, h2, _⟩
    · exact .base (.lst h)
    · exact .base (.frz h)
    · exact .kList h1 h2
  | tup h _ =>
    rcases h with (h | ⟨o, h⟩) | ⟨o, its, n, h1, h2, _⟩
    · exact .base (.tup h)
    · exact .fTuple h
    · exact .kTuple h1 h2
theorem kit_t {K : PySem.W.Frag} (d : PyData) : PySem.W.kitOne K (.type (tyN d)) (.type "tuple") = some (isT d) := by
  cases d
  · exact kit_ty (show kitB "NoneType" "tuple" = some false by decide +kernel)
  · exact kit_ty (show kitB "bool" "tuple" = some false by decide +kernel)
  · exact kit_ty (show kitB "int" "tuple" = some false by decide +kernel)
  · exact kit_ty (show kitB "str" "tuple" = some false by decide +kernel)
  · exact kit_ty (show kitB "list" "tuple" = some false by decide +kernel)
  · exact kit_ty (show kitB "tuple" "tuple" = some true by decide +kernel)
  · exact kit_ty (show kitB "dict" "tuple" = some false by decide +kernel)
theorem kit_l {K : PySem.W.Frag} (d : PyData) : PySem.W.kitOne K (.type (tyN d)) (.type "list") = some (isL d) := by
  cases d
  · exact kit_ty (show kitB "NoneType" "list" = some false by decide +kernel)
  · exact kit_ty (show kitB "bool" "list" = some false by decide +kernel)
  · exact kit_ty (show kitB "int" "list" = some false by decide +kernel)
  · exact kit_ty (show kitB "str" "list" = some false by decide +kernel)
  · exact kit_ty (show kitB "list" "list" = some true by decide +kernel)
  · exact kit_ty (show kitB "tuple" "list" = some false by decide +kernel)
  · exact kit_ty (show kitB "dict" "list" = some false by decide +kernel)
theorem kit_b {K : PySem.W.Frag} (d : PyData) : PySem.W.kitOne K (.type (tyN d)) (.type "bool") = some (isB d) := by
  cases d
  · exact kit_ty (show kitB "NoneType" "bool" = some false by decide +kernel)
  · exact kit_ty (show kitB "bool" "bool" = some true by decide +kernel)
  · exact kit_ty (show kitB "int" "bool" = some false by decide +kernel)
  · exact kit_ty (show kitB "str" "bool" = some false by decide +kernel)
  · exact kit_ty (show kitB "list" "bool" = some false by decide +kernel)
  · exact kit_ty (show kitB "tuple" "bool" = some false by decide +kernel)
  · exact kit_ty (show kitB "dict" "bool" = some false by decide +kernel)
theorem kit_tl {K : PySem.W.Frag} (d : PyData) : PySem.W.kitAny K (.type (tyN d)) [.type "tuple", .type "list"] = some (isT d || isL d) := by
  refine kitAny_cons (kit_t d) (fun h => ?_) (fun h => by rw [h, Bool.true_or])
  rw [h, Bool.false_or]
  refine kitAny_cons (kit_l d) (fun h => ?_) (fun h => h)
  rw [h]
  exact kitAny_nil

/-! ### a comprehension over zip of two lists, of two tuples, of one length -/
theorem lc_zip {J : It} {xs ys : List V} {A : Hp → Prop} {g : TG} {tt : TT} {te : TE} {vs : List Nat} {σ : L2.St} {H1 : Hp} {D : Addr} {Qd : Hp → Prop} (hl : xs.length = ys.length)
    (go : ∀ i H, A H → i < xs.length → J.go i H) (yl : ∀ i H v H', A H → J.yld i H v H' → ∃ T x y, v = .ref T ∧ H T = none ∧ H' = upd H T (.tup [x, y]) ∧ xs[i]? = some x ∧ ys[i]? = some y) (st : ∀ H, A H → J.stop xs.length H)
    (Pv : Nat → Hp → Prop) (h0 : Pv 0 (upd H1 D (.lst []))) (hq : ∀ i H, Pv i H → A H)
    (hs : ∀ (i : Nat) (x y : V) (T : Addr) (H : Hp), xs[i]? = some x → ys[i]? = some y → Pv i H → H T = none → g (.ref T) (wipe σ vs) (upd H T (.tup [x, y])) fun σ2 H2 => wipe σ2 vs = wipe σ vs ∧ tt σ2 H2 fun b H3 =>
      if b = true then te σ2 H3 fun y H4 => ∃ acc, H4 D = some (.lst acc) ∧ acc.length < sizeLine ∧ Pv (i + 1) (upd H4 D (.lst (acc ++ [y]))) else Pv (i + 1) H3) (hd : ∀ H, Pv xs.length H → Qd H) :
    ∃ W : Nat → Nat → Hp → Prop, (∃ m, W 0 m (upd H1 D (.lst []))) ∧ ∀ i m H, W i m H →
      (J.stop i H ∧ Qd H) ∨ (J.go i H ∧ ∃ Nx : Hp → Prop, (∀ H', Nx H' → ∃ m', m' < m ∧ W (i + 1) m' H') ∧ ∀ x H', J.yld i H x H' → g x (wipe σ vs) H' fun σ2 H2 => wipe σ2 vs = wipe σ vs ∧ tt σ2 H2 fun b H3 =>
        if b = true then te σ2 H3 fun y H4 => ∃ acc, H4 D = some (.lst acc) ∧ acc.length < sizeLine ∧ Nx (upd H4 D (.lst (acc ++ [y]))) else Nx H3) := by
  refine ⟨fun i m H => m = xs.length - i ∧ i ≤ xs.length ∧ Pv i H, ⟨xs.length, rfl, Nat.zero_le _, h0⟩, ?_⟩
  rintro i m H ⟨rfl, hi, p⟩
  by_cases hlt : i < xs.length
  · refine .inr ⟨go i H (hq i H p) hlt, Pv (i + 1), fun H' p' => ⟨xs.length - (i + 1), by omega, rfl, hlt, p'⟩, fun v H' y => ?_⟩
    obtain ⟨T, x', y', rfl, hT, rfl, f1, f2⟩ := yl i H v H' (hq i H p) y
    exact hs i x' y' T H f1 f2 p hT
  · have e : i = xs.length := by omega
    subst e
    exact .inl ⟨st H (hq _ H p), hd H p⟩
/-! no sequence within is long -/
mutual
def smallD : PyData → Bool
  | .tuple xs => decide (xs.length ≤ 100000) && smallDs xs
  | .list xs => decide (xs.length ≤ 100000) && smallDs xs
  | _ => true
def smallDs : List PyData → Bool
  | [] => true
  | x :: xs => smallD x && smallDs xs
end
theorem smallDs_all : ∀ {xs : List PyData}, smallDs xs = true → ∀ d ∈ xs, smallD d = true
  | [], _, d, h => nomatch h
  | x :: xs, h1, d, h => by
    obtain ⟨a, b⟩ := Bool.and_eq_true_iff.mp (show (smallD x && smallDs xs) = true from h1)
    rcases List.mem_cons.mp h with rfl | h
    · exact a
    · exact smallDs_all b d h
theorem smallT {xs : List PyData} (h : smallD (.tuple xs) = true) : xs.length ≤ 100000 ∧ ∀ d ∈ xs, smallD d = true := by
  obtain ⟨a, b⟩ := Bool.and_eq_true_iff.mp (show (decide (xs.length ≤ 100000) && smallDs xs) = true from h)
  exact ⟨of_decide_eq_true a, smallDs_all b⟩
theorem smallL {xs : List PyData} (h : smallD (.list xs) = true) : xs.length ≤ 100000 ∧ ∀ d ∈ xs, smallD d = true := by
  obtain ⟨a, b⟩ := Bool.and_eq_true_iff.mp (show (decide (xs.length ≤ 100000) && smallDs xs) = true from h)
  exact ⟨of_decide_eq_true a, smallDs_all b⟩
theorem isD_flat {d e : PyData} (h : ¬ (isT e || isL e) = true) : isD d e = ((isB d == isB e) && PyData.eqv d e) := by
  cases d <;> cases e <;> first | rfl | exact absurd rfl h
theorem isD_ne {d e : PyData} (h : (isT e || isL e) = true) (n : isT d ≠ isT e ∨ isL d ≠ isL e) : isD d e = false := by
  cases d <;> cases e <;> first | rfl | exact absurd (show false = true from h) Bool.false_ne_true | (rcases n with n | n <;> exact absurd rfl n)
theorem isD_kinds {d e : PyData} (h : (isT e || isL e) = true) (h1 : isT d = isT e) (h2 : isL d = isL e) : (∃ xs ys, d = .tuple xs ∧ e = .tuple ys) ∨ ∃ xs ys, d = .list xs ∧ e = .list ys := by
  cases d <;> cases e <;> first
    | exact .inl ⟨_, _, rfl, rfl⟩ | exact .inr ⟨_, _, rfl, rfl⟩ | exact absurd (show false = true from h) Bool.false_ne_true
    | exact absurd (show false = true from h1) Bool.false_ne_true | exact absurd (show true = false from h1).symm Bool.false_ne_true
    | exact absurd (show false = true from h2) Bool.false_ne_true | exact absurd (show true = false from h2).symm Bool.false_ne_true
theorem isDs_zip : ∀ {xs ys : List PyData}, xs.length = ys.length → (List.zipWith isD xs ys).all id = isDs xs ys
  | [], [], _ => rfl
  | [], _ :: _, h => by cases h
  | _ :: _, [], h => by cases h
  | x :: xs, y :: ys, h => by
    show (isD x y && (List.zipWith isD xs ys).all id) = (isD x y && isDs xs ys)
    rw [isDs_zip (by simpa using h)]
theorem isDs_len : ∀ {xs ys : List PyData}, xs.length ≠ ys.length → isDs xs ys = false
  | [], [], h => absurd rfl h
  | [], _ :: _, _ => rfl
  | _ :: _, [], _ => rfl
  | x :: xs, y :: ys, h => by
    show (isD x y && isDs xs ys) = false
    rw [isDs_len (xs := xs) (ys := ys) (by simpa using h), Bool.and_false]
theorem dpAll_len {K : PySem.W.Frag} {H : Hp} : ∀ {xs : List V} {ds : List PyData}, DpAll K H xs ds → xs.length = ds.length
  | _, _, .nil => rfl
  | _, _, .cons _ r => by rw [List.length_cons, List.length_cons, dpAll_len r]
theorem dpAll_at {K : PySem.W.Frag} {H : Hp} : ∀ {xs : List V} {ds : List PyData} {i : Nat} {x : V}, DpAll K H xs ds → xs[i]? = some x → ∃ d, ds[i]? = some d ∧ Dp K H x d
  | _, _, _, _, .nil, h => by simp at h
  | _, _, 0, _, .cons r _, h => by
    obtain rfl := Option.some.inj h
    exact ⟨_, rfl, r⟩
  | _, _, i + 1, _, .cons _ r, h => by
    obtain ⟨d, h1, h2⟩ := dpAll_at (i := i) r (by simpa using h)
    exact ⟨d, by simpa using h1, h2⟩
theorem depth_at : ∀ {ds : List PyData} {i : Nat} {d : PyData}, ds[i]? = some d → d.depth ≤ PyData.depthAll ds
  | [], _, _, h => by simp at h
  | x :: r, 0, _, h => by
    obtain rfl := Option.some.inj h
    show _ ≤ max _ _
    omega
  | x :: r, i + 1, d, h => by
    have := depth_at (ds := r) (i := i) (d := d) (by simpa using h)
    show _ ≤ max _ _
    omega
end Nm

/-! The law's sameness of things, _law_is. -/
namespace Nm
open PySem PySem.Spec PyProof.Rows L2
abbrev sIs : Stmt := topS 43
structure IsT (mg : Str → Option Value) : Prop where
  isi : mg "isinstance" = none
  tup : mg "tuple" = none
  lst : mg "list" = none
  len : mg "len" = none
  all : mg "all" = none
  zip : mg "zip" = none
  bool : mg "bool" = none
section
variable {P : Program} {w : World} {K : PySem.W.Frag} {mg : Str → Option Value} {base : Heap}
def spIs (K : PySem.W.Frag) (n : Nat) : Sp := fun vs H Q _ => ∃ x y : V, vs = [x, y] ∧
  ((∃ d e : PyData, Dp K H x d ∧ Dp K H y e ∧ SeqAt.shaped d = true ∧ SeqAt.shaped e = true ∧ smallD e = true ∧ e.depth < n ∧ ∀ H', Same H H' → Q (.bl (isD d e)) H') ∨
   (0 < n ∧ ∃ (a : Addr) (kvs : List (Key × V)), x = .ref a ∧ y = .ref a ∧ H a = some (.dK kvs) ∧ (kvs.map (·.1)).Nodup ∧ (∀ p ∈ kvs, flatB p.2 = true) ∧ ∀ H', Same H H' → Q (.bl true) H'))
theorem scIs : FnScope ["_law_thing", "_law_due", "_law_one", "_law_other"] ["_law_thing", "_law_due"] (defScope sIs) := ⟨rfl, rfl, rfl, by decide +kernel, rfl, by decide +kernel, by decide +kernel⟩
theorem ok_is {f : Addr} {fd : FuncData} (F : Fun K "_law_is" "_law_is" sIs f fd) (T : IsT mg) (bF : Binds K fd ["_law_thing", "_law_due"] []) (gF : mg "_law_is" = some (.ref f)) : ∀ n, FnOk P w K mg base CX0 n f fd ["_law_thing", "_law_due"] (spIs K n) := by
  intro n
  induction n with
  | zero =>
    refine ⟨fun vs H Q E h => ?_, fun A outer s H args us vs Q E hr he hb hv h => ?_⟩
    · obtain ⟨x, y, rfl, _⟩ := h
      rfl
    · obtain ⟨x, y, rfl, ⟨d, e, _, _, _, _, _, z, _⟩ | ⟨z, _⟩⟩ := h
      · exact absurd z (Nat.not_lt_zero _)
      · exact absurd z (Nat.lt_irrefl _)
  | succ n ih =>
    refine F.ok scIs (fun vs H Q E h => ?_) (fun cdv A outer s H vs Q E hr h => ?_)
    · obtain ⟨x, y, rfl, _⟩ := h
      rfl
    · obtain ⟨x, y, rfl, h⟩ := h
      refine ⟨_, pss_cons (ps_if (pt_val (pe_callB call_isiT (by rfl) T.isi (by decide +kernel) (pa_cons (pv 1) (pa_cons (pe_tup (pa_cons (pe_bltn (v := .ty "tuple") (by rfl) T.tup (by decide +kernel) rfl) (pa_cons (pe_bltn (v := .ty "list") (by rfl) T.lst (by decide +kernel) rfl) pa_nil))) pa_nil))))
          (pss_cons (ps_if (PW.pt (pw_or (pt_cmpR op_ne (pe_callB call_isi (by rfl) T.isi (by decide +kernel) (pa_cons (pv 0) (pa_cons (pe_bltn (v := .ty "tuple") (by rfl) T.tup (by decide +kernel) rfl) pa_nil))) (pe_callB call_isi (by rfl) T.isi (by decide +kernel) (pa_cons (pv 1) (pa_cons (pe_bltn (v := .ty "tuple") (by rfl) T.tup (by decide +kernel) rfl) pa_nil))) (nomark _))
              (pw_or1 (pt_cmpR op_ne (pe_callB call_isi (by rfl) T.isi (by decide +kernel) (pa_cons (pv 0) (pa_cons (pe_bltn (v := .ty "list") (by rfl) T.lst (by decide +kernel) rfl) pa_nil))) (pe_callB call_isi (by rfl) T.isi (by decide +kernel) (pa_cons (pv 1) (pa_cons (pe_bltn (v := .ty "list") (by rfl) T.lst (by decide +kernel) rfl) pa_nil))) (nomark _)))))
            (pss_one (ps_ret pe_bl)) pss_nil)
          (pss_one (ps_ret (pe_and (pe_cmpR op_eq (pe_callB call_len_seq (by rfl) T.len PySem.boot_len (pa_cons (pv 0) pa_nil)) (pe_callB call_len_seq (by rfl) T.len PySem.boot_len (pa_cons (pv 1) pa_nil)) (nomark _))
            (pe_one (pe_callB (cr_all rfl) (by rfl) T.all (by decide +kernel) (pa_cons
              (pe_lc (own := [("_law_one", 2), ("_law_other", 3)]) (g := gTup K 2 (gCons (gName 2) (gCons (gName 3) gNil))) (tt := tYes) rfl scIs.nd (RZ.pi_zipA (by rfl) T.zip (pa_cons (pv 0) (pa_cons (pv 1) pa_nil))) (blkOk_by (N := ["_law_thing", "_law_due", "_law_one", "_law_other"]) (sc := defScope sIs) (by decide +kernel))
                (fun _ _ _ _ _ => by
                  refine pg_tup rfl (pgs_cons ?b (pgs_cons ?c pgs_nil))
                  case b => exact pg_name (i := 2) scIs.nd rfl (Or.inl rfl)
                  case c => exact pg_name (i := 3) scIs.nd rfl (Or.inl rfl)) (fun _ _ _ _ _ => pts_nil)
                (fun _ _ _ _ _ => pe_call ih (by exact hr) (by rfl) gF F.kp bF .nil pass0 (pa_cons (pv 2) (pa_cons (pv 3) pa_nil)))) pa_nil))))))) pss_nil)
        (pss_one (ps_ret (pe_and (pe_cmpR op_eq (pe_callB call_isi (by rfl) T.isi (by decide +kernel) (pa_cons (pv 0) (pa_cons (pe_bltn (v := .ty "bool") (by rfl) T.bool (by decide +kernel) rfl) pa_nil))) (pe_callB call_isi (by rfl) T.isi (by decide +kernel) (pa_cons (pv 1) (pa_cons (pe_bltn (v := .ty "bool") (by rfl) T.bool (by decide +kernel) rfl) pa_nil))) (nomark _))
          (pe_one (pe_cmpR (OpR.or (op_eqD hr.units) (op_eq_dict (Nat.lt_of_succ_lt (hu_of hr)))) (pv 0) (pv 1) (nomark _)))))), ?_⟩
      rcases h with ⟨d, e, hd, he, sd, se, sm0, hn, q⟩ | ⟨_, a, kvs, rfl, rfl, ha, nd, fl, q⟩
      · refine ⟨_, rfl, (by show 2 ≤ sizeLine; decide), fun tp htp => ?_⟩
        have s1 : Same H (upd H tp (.tup [.ty "tuple", .ty "list"])) := same_upd htp
        refine ⟨_, tp, _, _, _, _, rfl, upd_same, .cons (.ty "tuple") (.cons (.ty "list") .nil), dp_ty (Dp.same s1 he), kit_tl e, _, rfl, ?_⟩
        obtain ⟨H1, eH1⟩ : ∃ H1, H1 = upd H tp (.tup [.ty "tuple", .ty "list"]) := ⟨_, rfl⟩
        rw [← eH1] at s1 ⊢
        have hd1 := Dp.same s1 hd
        have he1 := Dp.same s1 he
        refine ite2 (fun c => ?_) (fun c => ?_)
        · refine ⟨_, rfl, _, _, _, _, _, rfl, .ty "tuple", dp_ty hd1, kit_t d, _, rfl, _, _, _, _, _, rfl, .ty "tuple", dp_ty he1, kit_t e, rfl, _, rfl, ?_⟩
          dsimp only
          refine ite2 (fun n1 => ?_) (fun n1 => ?_)
          · have e1 : isD d e = false := isD_ne c (.inl fun z => by rw [z] at n1; simp at n1)
            rw [if_pos rfl]
            show Q (.bl false) H1
            rw [← e1]
            exact q H1 s1
          · have k1 : isT d = isT e := by simpa using n1
            refine ⟨_, rfl, _, _, _, _, _, rfl, .ty "list", dp_ty hd1, kit_l d, _, rfl, _, _, _, _, _, rfl, .ty "list", dp_ty he1, kit_l e, rfl, _, rfl, ?_⟩
            refine ite2 (fun n2 => ?_) (fun n2 => ?_)
            · have e1 : isD d e = false := isD_ne c (.inr fun z => by rw [z] at n2; simp at n2)
              show Q (.bl false) H1
              rw [← e1]
              exact q H1 s1
            · have k2 : isL d = isL e := by simpa using n2
              rcases isD_kinds c k1 k2 with ⟨ds, es, rfl, rfl⟩ | ⟨ds, es, rfl, rfl⟩
              · cases hd1 with
                | @tup a xs _ hxa ax =>
                cases he1 with
                | @tup b ys _ hyb ay =>
                have lx := dpAll_len ax
                have ly := dpAll_len ay
                refine ⟨_, rfl, a, xs, rfl, .inr hxa, _, rfl, b, ys, rfl, .inr hyb, rfl, _, rfl, ?_⟩
                refine ite2 (fun l => ?_) (fun l => ?_)
                · have hl : xs.length = ys.length := by
                    have z := of_decide_eq_true l
                    injection z with z
                    omega
                  refine ⟨_, rfl, _, rfl, a, b, xs, ys, rfl, .inr ⟨hxa, hyb, fun D hD => ?_⟩⟩
                  refine lc_zip (J := RZ.ItzT K a b) (A := fun H2 => Same H1 H2) hl
                    (fun i H2 sm hi => ⟨xs, ys, xs[i], ys[i], Nm.Same.seqT sm hxa, Nm.Same.seqT sm hyb, List.getElem?_eq_getElem hi, List.getElem?_eq_getElem (by omega)⟩)
                    (fun i H2 v H' sm y => by
                      obtain ⟨T, x', y', rfl, hT, rfl, f1, f2⟩ := y
                      exact ⟨T, x', y', rfl, hT, rfl, f1 xs (Nm.Same.seqT sm hxa), f2 ys (Nm.Same.seqT sm hyb)⟩)
                    (fun H2 sm => ⟨xs, ys, Nm.Same.seqT sm hxa, Nm.Same.seqT sm hyb, Or.inl (Nat.le_refl _)⟩)
                    (fun i H2 => Same H1 H2 ∧ H2 D = some (.lst (((List.zipWith isD ds es).take i).map V.bl))) ⟨same_upd hD, by rw [upd_same]; rfl⟩ (fun i H2 h => h.1) ?_ ?_
                  · rintro i x' y' T H2 hx' hy' ⟨sm, h2⟩ hT
                    obtain ⟨d', hd', dd'⟩ := dpAll_at ax hx'
                    obtain ⟨e', he', de'⟩ := dpAll_at ay hy'
                    have sm3 : Same H1 (upd H2 T (.tup [x', y'])) := sm.trans (same_upd hT)
                    have nDT : D ≠ T := ne_of_none h2 hT
                    have dep : e'.depth < n := by
                      have z := depth_at he'
                      have z2 : PyData.depthAll es + 1 < n + 1 := hn
                      omega
                    refine ⟨T, [x', y'], rfl, .inl (.inl upd_same), rfl, x', [y'], rfl, y', [], rfl, rfl, rfl, ?_⟩
                    unfold tYes
                    dsimp only
                    rw [if_pos rfl]
                    refine ⟨_, rfl, _, rfl, x', y', rfl, .inl ⟨d', e', Dp.same sm3 dd', Dp.same sm3 de', sh_tup sd d' (List.mem_of_getElem? hd'), sh_tup se e' (List.mem_of_getElem? he'), (smallT sm0).2 e' (List.mem_of_getElem? he'), dep, fun H4 s4 => ?_⟩⟩
                    have h4 : H4 D = some (.lst (((List.zipWith isD ds es).take i).map V.bl)) := s4 _ _ (by rw [upd_ne nDT]; exact h2)
                    refine ⟨_, h4, ?_, fun p o hp => ?_, ?_⟩
                    · rw [List.length_map, List.length_take]
                      have z : i < xs.length := (List.getElem?_eq_some_iff.mp hx').1
                      have z3 := (smallT sm0).1
                      rw [sizeLine_eq]
                      omega
                    · rw [upd_ne (ne_of_none hp hD)]
                      exact s4 _ _ (sm3 _ _ hp)
                    · have hz : (List.zipWith isD ds es)[i]? = some (isD d' e') := by rw [List.getElem?_zipWith, hd', he']
                      rw [upd_same, List.take_add_one, hz, List.map_append]
                      rfl
                  · rintro H2 ⟨sm, h2⟩
                    refine ⟨D, _, rfl, SqL.of h2, ?_⟩
                    have e1 : ((List.zipWith isD ds es).take xs.length).all id = isDs ds es := by
                      rw [List.take_of_length_le (by rw [List.length_zipWith]; omega)]
                      exact isDs_zip (by omega)
                    rw [e1]
                    exact q H2 (s1.trans sm)
                · have e1 : isDs ds es = false := isDs_len fun z => by
                    have z2 : xs.length = ys.length := by omega
                    rw [z2] at l
                    simp at l
                  show Q (.bl false) H1
                  rw [← e1]
                  exact q H1 s1
              · cases hd1 with
                | @lst a xs _ hxa ax =>
                cases he1 with
                | @lst b ys _ hyb ay =>
                have lx := dpAll_len ax
                have ly := dpAll_len ay
                refine ⟨_, rfl, a, xs, rfl, .inl hxa, _, rfl, b, ys, rfl, .inl hyb, rfl, _, rfl, ?_⟩
                refine ite2 (fun l => ?_) (fun l => ?_)
                · have hl : xs.length = ys.length := by
                    have z := of_decide_eq_true l
                    injection z with z
                    omega
                  refine ⟨_, rfl, _, rfl, a, b, xs, ys, rfl, .inl ⟨hxa, hyb, fun D hD => ?_⟩⟩
                  refine lc_zip (J := Itz K a b) (A := fun H2 => Same H1 H2) hl
                    (fun i H2 sm hi => ⟨xs, ys, xs[i], ys[i], sm.seq hxa, sm.seq hyb, List.getElem?_eq_getElem hi, List.getElem?_eq_getElem (by omega)⟩)
                    (fun i H2 v H' sm y => by
                      obtain ⟨T, x', y', rfl, hT, rfl, f1, f2⟩ := y
                      exact ⟨T, x', y', rfl, hT, rfl, f1 xs (sm.seq hxa), f2 ys (sm.seq hyb)⟩)
                    (fun H2 sm => ⟨xs, ys, sm.seq hxa, sm.seq hyb, Or.inl (Nat.le_refl _)⟩)
                    (fun i H2 => Same H1 H2 ∧ H2 D = some (.lst (((List.zipWith isD ds es).take i).map V.bl))) ⟨same_upd hD, by rw [upd_same]; rfl⟩ (fun i H2 h => h.1) ?_ ?_
                  · rintro i x' y' T H2 hx' hy' ⟨sm, h2⟩ hT
                    obtain ⟨d', hd', dd'⟩ := dpAll_at ax hx'
                    obtain ⟨e', he', de'⟩ := dpAll_at ay hy'
                    have sm3 : Same H1 (upd H2 T (.tup [x', y'])) := sm.trans (same_upd hT)
                    have nDT : D ≠ T := ne_of_none h2 hT
                    have dep : e'.depth < n := by
                      have z := depth_at he'
                      have z2 : PyData.depthAll es + 1 < n + 1 := hn
                      omega
                    refine ⟨T, [x', y'], rfl, .inl (.inl upd_same), rfl, x', [y'], rfl, y', [], rfl, rfl, rfl, ?_⟩
                    unfold tYes
                    dsimp only
                    rw [if_pos rfl]
                    refine ⟨_, rfl, _, rfl, x', y', rfl, .inl ⟨d', e', Dp.same sm3 dd', Dp.same sm3 de', sh_list sd d' (List.mem_of_getElem? hd'), sh_list se e' (List.mem_of_getElem? he'), (smallL sm0).2 e' (List.mem_of_getElem? he'), dep, fun H4 s4 => ?_⟩⟩
                    have h4 : H4 D = some (.lst (((List.zipWith isD ds es).take i).map V.bl)) := s4 _ _ (by rw [upd_ne nDT]; exact h2)
                    refine ⟨_, h4, ?_, fun p o hp => ?_, ?_⟩
                    · rw [List.length_map, List.length_take]
                      have z : i < xs.length := (List.getElem?_eq_some_iff.mp hx').1
                      have z3 := (smallL sm0).1
                      rw [sizeLine_eq]
                      omega
                    · rw [upd_ne (ne_of_none hp hD)]
                      exact s4 _ _ (sm3 _ _ hp)
                    · have hz : (List.zipWith isD ds es)[i]? = some (isD d' e') := by rw [List.getElem?_zipWith, hd', he']
                      rw [upd_same, List.take_add_one, hz, List.map_append]
                      rfl
                  · rintro H2 ⟨sm, h2⟩
                    refine ⟨D, _, rfl, SqL.of h2, ?_⟩
                    have e1 : ((List.zipWith isD ds es).take xs.length).all id = isDs ds es := by
                      rw [List.take_of_length_le (by rw [List.length_zipWith]; omega)]
                      exact isDs_zip (by omega)
                    rw [e1]
                    exact q H2 (s1.trans sm)
                · have e1 : isDs ds es = false := isDs_len fun z => by
                    have z2 : xs.length = ys.length := by omega
                    rw [z2] at l
                    simp at l
                  show Q (.bl false) H1
                  rw [← e1]
                  exact q H1 s1
        · refine ⟨_, rfl, _, _, _, _, _, rfl, .ty "bool", dp_ty hd1, kit_b d, _, rfl, _, _, _, _, _, rfl, .ty "bool", dp_ty he1, kit_b e, rfl, _, rfl, ?_⟩
          have e1 := isD_flat (d := d) c
          refine ite2 (fun n1 => ?_) (fun n1 => ?_)
          · have n2 : isB d = isB e := by simpa using n1
            rw [n2, beq_self_eq_true, Bool.true_and] at e1
            refine ⟨_, rfl, _, rfl, .inl ⟨d, e, hd1, he1, sd, se, ?_⟩⟩
            show Q (.bl (PyData.eqv d e)) H1
            rw [← e1]
            exact q H1 s1
          · have n2 : (isB d == isB e) = false := by simpa using n1
            rw [n2, Bool.false_and] at e1
            show Q (.bl false) H1
            rw [← e1]
            exact q H1 s1
      · refine ⟨_, rfl, (by show 2 ≤ sizeLine; decide), fun tp htp => ?_⟩
        have s1 : Same H (upd H tp (.tup [.ty "tuple", .ty "list"])) := same_upd htp
        have ha1 := s1 _ _ ha
        have ty := TyX.base (K := K) (TyOf.dK ha1)
        have k0 : PySem.W.kitAny K (.type "dict") [.type "tuple", .type "list"] = some false :=
          kitAny_cons (kit_ty (show kitB "dict" "tuple" = some false by decide +kernel)) (fun _ => kitAny_cons (kit_ty (show kitB "dict" "list" = some false by decide +kernel)) (fun _ => kitAny_nil) (fun h => h)) (fun h => h)
        have k1 : PySem.W.kitOne K (.type "dict") (.type "bool") = some false := kit_ty (show kitB "dict" "bool" = some false by decide +kernel)
        refine ⟨_, tp, _, _, _, _, rfl, upd_same, .cons (.ty "tuple") (.cons (.ty "list") .nil), ty, k0, _, rfl, ?_⟩
        refine iteF ?_
        refine ⟨_, rfl, _, _, _, _, _, rfl, .ty "bool", ty, k1, _, rfl, _, _, _, _, _, rfl, .ty "bool", ty, k1, rfl, _, rfl, ?_⟩
        refine ite2 (fun _ => ?_) (fun z => absurd (decide_eq_true rfl) z)
        exact ⟨_, rfl, _, rfl, .inr ⟨a, a, kvs, rfl, rfl, ha1, ha1, nd, fl, q _ s1⟩⟩
end
end Nm

/-! _law_deep: a thing of lists and tuples within one another. -/
namespace Nm
open PySem PySem.Spec PyProof.Rows L2
abbrev sDeep : Stmt := topS 44
def deepD : Nat → PyData
  | 0 => .tuple []
  | n + 1 => .list [.tuple [deepD n]]
section
variable {P : Program} {w : World} {K : PySem.W.Frag} {mg : Str → Option Value} {base : Heap}
def spDeep : Sp := fun vs H Q _ => vs = [] ∧ ∀ (v : V) (H' : Hp), Same H H' → DS (fun a => H a = none) H' v (deepD 11) → Q v H'
theorem scDeep : FnScope ["_law_thing", "_law_turn"] [] (defScope sDeep) := ⟨rfl, rfl, rfl, by decide +kernel, rfl, by decide +kernel, by decide +kernel⟩
theorem ok_deep {f : Addr} {fd : FuncData} {k : Nat} (F : Fun K "_law_deep" "_law_deep" sDeep f fd) (mr : mg "range" = none) : FnOk P w K mg base CX0 (k + 1) f fd [] spDeep := by
  refine F.ok scDeep (fun vs H Q E h => ?_) (fun cdv A outer s H vs Q E hr h => ?_)
  · obtain ⟨rfl, _⟩ := h
    rfl
  · obtain ⟨rfl, q⟩ := h
    refine ⟨_, pss_cons (ps_set (i := 0) scDeep.nd rfl (.inl rfl) (pe_tup pa_nil))
      (pss_cons (ps_for PassesOwn.never rfl (pi_range1 rfl mr (pa_cons pe_int pa_nil)) (pg_name (i := 1) scDeep.nd rfl (Or.inl rfl))
        (pss_one (ps_set (i := 0) scDeep.nd rfl (.inl rfl) (pe_lst (pa_cons (pe_tup (pa_cons (pv 0) pa_nil)) pa_nil)))))
      (pss_one (ps_ret (pv 0)))), ?_⟩
    refine ⟨Nat.zero_le _, fun t0 h0 => ?_⟩
    refine ⟨11, rfl, by decide, by decide, for_range (n := 11) (fun i σ H2 => ∃ (v : V) (y : Option V), σ = [some v, y] ∧ Same H H2 ∧ DS (fun a => H a = none) H2 v (deepD i)) ⟨_, none, rfl, same_upd h0, .tup h0 upd_same .nil⟩ ?_ ?_⟩
    · rintro i σ H2 hi ⟨v, y, rfl, sm, d⟩
      refine ⟨_, rfl, (by show 1 ≤ sizeLine; decide), fun t ht => ⟨(by show 1 ≤ sizeLine; decide), fun l hl => ?_⟩⟩
      have s1 : Same H2 (upd H2 t (.tup [v])) := same_upd ht
      have s2 : Same (upd H2 t (.tup [v])) (upd (upd H2 t (.tup [v])) l (.lst [.ref t])) := same_upd hl
      have nt : t ≠ l := ne_of_none upd_same hl
      refine ⟨.ref l, _, rfl, (sm.trans s1).trans s2, .lst ((sm.trans s1).free hl) upd_same (.cons (.tup (sm.free ht) (by rw [upd_ne nt]; exact upd_same) (.cons (DS.keep (fun a o sa ha => ⟨sa, s2 _ _ (s1 _ _ ha)⟩) d) .nil)) .nil)⟩
    · rintro σ H2 ⟨v, y, rfl, sm, d⟩
      exact ⟨v, rfl, q v H2 sm d⟩
end
end Nm

/-! The law's numbers: _law_common, _law_frac, _law_less, _law_q, _law_c. -/
namespace Nm
open PySem PySem.Spec PyProof.Rows L2
abbrev sCommon : Stmt := topS 45
abbrev sFrac : Stmt := topS 46
abbrev sLess : Stmt := topS 47
abbrev sQ : Stmt := topS 51
abbrev sC : Stmt := topS 52
section
variable {P : Program} {w : World} {K : PySem.W.Frag} {mg : Str → Option Value} {base : Heap}
/-! ### the greatest common divisor -/
def spCommon : Sp := fun vs H Q _ => ∃ a b : Int, vs = [.int a, .int b] ∧ Q (.int (Int.gcd a b)) H
theorem gcd_turn {a b : Int} (ha : 0 ≤ a) (hb : 0 < b) : Int.gcd b (a % b) = Int.gcd a b := by
  rw [Int.gcd_comm a b]
  obtain ⟨x, rfl⟩ := Int.eq_ofNat_of_zero_le ha
  obtain ⟨y, rfl⟩ := Int.eq_ofNat_of_zero_le (Int.le_of_lt hb)
  rw [← Int.natCast_emod]
  show Nat.gcd y (x % y) = Nat.gcd y x
  rw [Nat.gcd_comm y (x % y), Nat.gcd_comm y x]
  rw [← Nat.gcd_rec y x, Nat.gcd_comm]
theorem scCommon : FnScope ["_law_one", "_law_other"] ["_law_one", "_law_other"] (defScope sCommon) := ⟨rfl, rfl, rfl, by decide +kernel, rfl, by decide +kernel, by decide +kernel⟩
theorem ok_common {f : Addr} {fd : FuncData} {k : Nat} (F : Fun K "_law_common" "_law_common" sCommon f fd) (T : BltT mg) : FnOk P w K mg base CX0 (k + 1) f fd ["_law_one", "_law_other"] spCommon := by
  refine F.ok scCommon (fun vs H Q E h => ?_) (fun cdv A outer s H vs Q E hr h => ?_)
  · obtain ⟨a, b, rfl, _⟩ := h
    rfl
  · obtain ⟨a, b, rfl, q⟩ := h
    refine ⟨_, pss_cons (ps_par (i := 0) (j := 1) (by rfl) scCommon.nd rfl rfl (by decide) rfl rfl (pa_cons (pe_callB call_abs (by rfl) T.abs (by decide +kernel) (pa_cons (pv 0) pa_nil)) (pa_cons (pe_callB call_abs (by rfl) T.abs (by decide +kernel) (pa_cons (pv 1) pa_nil)) pa_nil)) (by rfl))
      (pss_cons (ps_while PassesOwn.never (pt_cmpR op_gt (pv 1) pe_int (nomark _))
        (pss_one (ps_par (i := 0) (j := 1) (by rfl) scCommon.nd rfl rfl (by decide) rfl rfl (pa_cons (pv 1) (pa_cons (pe_op op_mod (pe_callTy call_int1 (by rfl) T.int (by decide +kernel) (pa_cons (pv 0) pa_nil)) (pv 1)) pa_nil)) (by rfl))))
      (pss_one (ps_ret (pv 0)))), ?_⟩
    refine ⟨_, rfl, a, rfl, _, rfl, b, rfl, _, _, rfl, ?_⟩
    refine while_by (fun σ H2 => H2 = H ∧ ∃ x y : Int, σ = [some (.int x), some (.int y)] ∧ 0 ≤ x ∧ 0 ≤ y ∧ Int.gcd x y = Int.gcd a b) (fun σ _ => match σ with | [_, some (.int y)] => y.toNat | _ => 0) ⟨rfl, _, _, rfl, by split <;> omega, by split <;> omega, ?_⟩ ?_ ?_
    · have e1 : ∀ z : Int, (if z < 0 then -z else z) = (z.natAbs : Int) := fun z => by split <;> omega
      rw [e1, e1]
      rfl
    · rintro σ H2 ⟨rfl, x, y, rfl, hx, hy, e⟩
      refine ⟨_, rfl, y, 0, rfl, rfl, _, rfl, ?_⟩
      refine ite2 (fun c => ?_) (fun c => ?_)
      · have hy0 : 0 < y := of_decide_eq_true c
        refine ⟨_, rfl, _, rfl, .inl ⟨x, rfl, _, rfl, x, y, rfl, rfl, hy0, _, _, rfl, ?_⟩⟩
        refine ⟨⟨rfl, _, _, rfl, hy, Int.emod_nonneg _ (by omega), by rw [gcd_turn hx hy0]; exact e⟩, ?_⟩
        show (x % y).toNat < y.toNat
        have := Int.emod_lt_of_pos x hy0
        have := Int.emod_nonneg x (show y ≠ 0 by omega)
        omega
      · have hy0 : y = 0 := by
          have : ¬ 0 < y := fun z => c (decide_eq_true z)
          omega
        subst hy0
        refine ⟨_, rfl, ?_⟩
        have e2 : x = ((Int.gcd a b : Nat) : Int) := by
          rw [← e, Int.gcd_zero_right]
          omega
        show Q (.int x) _
        rw [e2]
        exact q
    · intro σ H2 Q1 Q2 h12 hq
      obtain ⟨v, e, i, j, rfl, e2, b, e3, h⟩ := hq
      exact ⟨_, e, i, j, rfl, e2, b, e3, h12 _ _ h⟩
/-! ### a fraction in lowest terms -/
def fracT (a b : Int) : Int := (if b < 0 then -a else a) / (max 1 (Int.gcd a b : Int))
def fracB (a b : Int) : Int := (if b < 0 then -b else b) / (max 1 (Int.gcd a b : Int))
def spFrac : Sp := fun vs H Q _ => ∃ a b : Int, vs = [.int a, .int b] ∧ a.natAbs < 2 ^ 1000 ∧ b.natAbs < 2 ^ 1000 ∧ ∀ p, H p = none → Q (.ref p) (upd H p (.tup [.int (fracT a b), .int (fracB a b)]))
theorem scFrac : FnScope ["_law_top", "_law_bottom", "_law_many"] ["_law_top", "_law_bottom"] (defScope sFrac) := ⟨rfl, rfl, rfl, by decide +kernel, rfl, by decide +kernel, by decide +kernel⟩
theorem ok_frac {f fC : Addr} {fd fdC : FuncData} {k : Nat} (F : Fun K "_law_frac" "_law_frac" sFrac f fd) (T : BltT mg) (mx : mg "max" = none) (FC : Fun K "_law_common" "_law_common" sCommon fC fdC) (bC : Binds K fdC ["_law_one", "_law_other"] []) (gC : mg "_law_common" = some (.ref fC)) :
    FnOk P w K mg base CX0 (k + 2) f fd ["_law_top", "_law_bottom"] spFrac := by
  have GC : FnOk P w K mg base CX0 (k + 1) fC fdC ["_law_one", "_law_other"] spCommon := ok_common FC T
  refine F.ok scFrac (fun vs H Q E h => ?_) (fun cdv A outer s H vs Q E hr h => ?_)
  · obtain ⟨a, b, rfl, _⟩ := h
    rfl
  · obtain ⟨a, b, rfl, ha, hb, q⟩ := h
    refine ⟨_, pss_cons (ps_if (pt_cmpR op_lt (pv 1) pe_int (nomark _)) (pss_one (ps_par (i := 0) (j := 1) (by rfl) scFrac.nd rfl rfl (by decide) rfl rfl (pa_cons (pe_un un_neg (pv 0)) (pa_cons (pe_un un_neg (pv 1)) pa_nil)) (by rfl))) pss_nil)
      (pss_cons (ps_set (i := 2) scFrac.nd rfl (.inl rfl) (pe_callB (call_max2 rfl) (by rfl) mx (by decide +kernel) (pa_cons pe_int (pa_cons (pe_call GC hr (by rfl) gC FC.kp bC .nil pass0 (pa_cons (pv 0) (pa_cons (pv 1) pa_nil))) pa_nil))))
      (pss_one (ps_ret (pe_tup (pa_cons (pe_op op_fdivW (pv 0) (pv 2)) (pa_cons (pe_op op_fdivW (pv 1) (pv 2)) pa_nil)))))), ?_⟩
    have key : ∀ x y : Int, Int.gcd x y = Int.gcd a b → (x.natAbs = a.natAbs ∧ y.natAbs = b.natAbs) → fracT a b = x / max 1 (Int.gcd a b : Int) → fracB a b = y / max 1 (Int.gcd a b : Int) →
        CDivW x (if (Int.gcd x y : Int) > 1 then (Int.gcd x y : Int) else 1) ∧ CDivW y (if (Int.gcd x y : Int) > 1 then (Int.gcd x y : Int) else 1) ∧
        x / (if (Int.gcd x y : Int) > 1 then (Int.gcd x y : Int) else 1) = fracT a b ∧ y / (if (Int.gcd x y : Int) > 1 then (Int.gcd x y : Int) else 1) = fracB a b := by
      intro x y e hxy e1 e2
      have em : (if (Int.gcd x y : Int) > 1 then (Int.gcd x y : Int) else 1) = max 1 (Int.gcd a b : Int) := by
        rw [e]
        split <;> omega
      rw [em, e1, e2]
      have hg : (Int.gcd a b) ≤ a.natAbs + b.natAbs := by
        by_cases z : a = 0
        · subst z
          rw [Int.gcd_zero_left]
          omega
        · exact Nat.le_trans (Nat.le_of_dvd (Int.natAbs_pos.mpr z) (Int.gcd_dvd_natAbs_left a b)) (Nat.le_add_right _ _)
      have hm : (max 1 (Int.gcd a b : Int)).natAbs < 2 ^ 1001 := by
        have z : (2 : Nat) ^ 1001 = 2 ^ 1000 + 2 ^ 1000 := by decide +kernel
        have z1 : (1 : Nat) < 2 ^ 1000 := by decide +kernel
        omega
      exact ⟨wide_div (b := 1001) (by omega) hm (by decide) (by decide), wide_div (b := 1001) (by omega) hm (by decide) (by decide), rfl, rfl⟩
    refine ⟨_, rfl, b, 0, rfl, rfl, _, rfl, ?_⟩
    refine ite2 (fun c => ?_) (fun c => ?_)
    · have hb0 : b < 0 := of_decide_eq_true c
      obtain ⟨k1, k2, k3, k4⟩ := key (-a) (-b) (by rw [Int.gcd_neg, Int.neg_gcd]) ⟨by omega, by omega⟩ (by unfold fracT; rw [if_pos hb0]) (by unfold fracB; rw [if_pos hb0])
      refine ⟨_, rfl, a, rfl, _, rfl, b, rfl, _, _, rfl, ?_⟩
      refine ⟨_, rfl, _, rfl, -a, -b, rfl, ?_⟩
      refine ⟨1, (Int.gcd (-a) (-b) : Int), rfl, ?_⟩
      refine ⟨_, rfl, _, rfl, -a, _, rfl, rfl, k1, _, rfl, _, rfl, -b, _, rfl, rfl, k2, (by show 2 ≤ sizeLine; decide), fun p hp => ?_⟩
      have z := q p hp
      rw [← k3, ← k4] at z
      exact z
    · have hb0 : ¬ b < 0 := fun z => c (decide_eq_true z)
      obtain ⟨k1, k2, k3, k4⟩ := key a b rfl ⟨rfl, rfl⟩ (by unfold fracT; rw [if_neg hb0]) (by unfold fracB; rw [if_neg hb0])
      refine ⟨_, rfl, _, rfl, a, b, rfl, ?_⟩
      refine ⟨1, (Int.gcd a b : Int), rfl, ?_⟩
      refine ⟨_, rfl, _, rfl, a, _, rfl, rfl, k1, _, rfl, _, rfl, b, _, rfl, rfl, k2, (by show 2 ≤ sizeLine; decide), fun p hp => ?_⟩
      have z := q p hp
      rw [← k3, ← k4] at z
      exact z
theorem frac_pos {a b : Int} (hb : 0 < b) : ∃ g : Int, 0 < g ∧ a = g * fracT a b ∧ b = g * fracB a b ∧ Int.gcd (fracT a b) (fracB a b) = 1 ∧ 0 < fracB a b := by
  have h0 : 0 < Int.gcd a b := by
    rcases Nat.eq_zero_or_pos (Int.gcd a b) with z | z
    · have := (Int.gcd_eq_zero_iff.mp z).2
      omega
    · exact z
  have e : max 1 (Int.gcd a b : Int) = (Int.gcd a b : Int) := by omega
  unfold fracT fracB
  rw [if_neg (by omega), if_neg (by omega), e]
  have e2 : b = (Int.gcd a b : Int) * (b / (Int.gcd a b : Int)) := (Int.mul_ediv_cancel' (Int.gcd_dvd_right a b)).symm
  refine ⟨(Int.gcd a b : Int), by omega, (Int.mul_ediv_cancel' (Int.gcd_dvd_left a b)).symm, e2, Int.gcd_ediv_gcd_ediv_gcd h0, ?_⟩
  exact Int.ediv_pos_of_pos_of_dvd hb (by omega) (Int.gcd_dvd_right a b)
/-- a q that a caller may pass -/
def QF (t u : Int) : Prop := 1 ≤ u ∧ u ≤ 4 ∧ Int.gcd t u = 1 ∧ -(4 * u) ≤ t ∧ t ≤ 4 * u
/-- a c of moderate size -/
def CF (t u : Int) : Prop := t ≠ 0 ∧ 0 < u ∧ Int.gcd t u = 1 ∧ t.natAbs < 10 ^ 30 ∧ u < 10 ^ 30
theorem qf_of {a b : Int} (h1 : 1 ≤ b) (h4 : b ≤ 4) (l : -(4 * b) ≤ a) (u : a ≤ 4 * b) : QF (fracT a b) (fracB a b) := by
  obtain ⟨g, g0, ea, eb, hg, hb⟩ := frac_pos (a := a) (b := b) (by omega)
  generalize fracT a b = t at *
  generalize fracB a b = v at *
  refine ⟨by omega, ?_, hg, ?_, ?_⟩
  · have : 1 * v ≤ g * v := Int.mul_le_mul_of_nonneg_right (by omega) (by omega)
    omega
  · refine Int.le_of_mul_le_mul_left (a := g) ?_ g0
    rw [Int.mul_neg, Int.mul_left_comm, ← ea, ← eb]
    exact l
  · refine Int.le_of_mul_le_mul_left (a := g) ?_ g0
    rw [Int.mul_left_comm, ← ea, ← eb]
    exact u
theorem cf_of {a b : Int} (h1 : 1 ≤ b) (h4 : b < 10 ^ 30) (n : a ≠ 0) (l : a.natAbs < 10 ^ 30) : CF (fracT a b) (fracB a b) := by
  obtain ⟨g, g0, ea, eb, hg, hb⟩ := frac_pos (a := a) (b := b) (by omega)
  generalize fracT a b = t at *
  generalize fracB a b = v at *
  refine ⟨fun z => n (by rw [ea, z, Int.mul_zero]), hb, hg, ?_, ?_⟩
  · refine Nat.lt_of_le_of_lt ?_ l
    rw [ea, Int.natAbs_mul]
    exact Nat.le_mul_of_pos_left _ (by omega)
  · have : 1 * v ≤ g * v := Int.mul_le_mul_of_nonneg_right (by omega) (by omega)
    omega
/-! ### the law's own draws of q and c -/
def spQ : Sp := fun vs H Q _ => ∃ (b g : Addr) (n : Nat), vs = [.ref b] ∧ BagAt H b g n ∧ n < 999999999990 ∧
  ∀ (p : Addr) (t u : Int) (H' : Hp), QF t u → KeptB b g H H' → BagAt H' b g (n + 3) → H p = none → H' p = some (.tup [.int t, .int u]) → Q (.ref p) H'
def spC : Sp := fun vs H Q _ => ∃ (b g : Addr) (n : Nat), vs = [.ref b] ∧ BagAt H b g n ∧ n < 999999999990 ∧
  ∀ (p : Addr) (t u : Int) (H' : Hp), CF t u → KeptB b g H H' → BagAt H' b g (n + 5) → H p = none → H' p = some (.tup [.int t, .int u]) → Q (.ref p) H'
/-- what is new stands apart from the bag -/
theorem BagAt.off {H H2 : Hp} {b g p : Addr} {n : Nat} (h : BagAt H b g n) (e : H p = none) : p ≠ b ∧ p ≠ g := by
  obtain ⟨_, ⟨_, _, _, h1, _⟩, _, h2, _⟩ := h
  exact ⟨(ne_of_none h1 e).symm, (ne_of_none h2 e).symm⟩
theorem BagAt.upd {H : Hp} {b g p : Addr} {n : Nat} {o : HO} (h : BagAt H b g n) (n1 : b ≠ p) (n2 : g ≠ p) : BagAt (L2.upd H p o) b g n := by
  obtain ⟨ne, ⟨seed, c, al, h1, h2⟩, gs, h3, h4⟩ := h
  exact ⟨ne, ⟨seed, c, al, by rw [upd_ne n1]; exact h1, h2⟩, gs, by rw [upd_ne n2]; exact h3, h4⟩
theorem BagAt.new {H : Hp} {b g p : Addr} {n : Nat} {o : HO} (h : BagAt H b g n) (e : H p = none) : BagAt (L2.upd H p o) b g n := h.same (same_upd e)
theorem KeptB.free {b g p : Addr} {H H' : Hp} {n : Nat} (k : KeptB b g H H') (B : BagAt H b g n) (e : H' p = none) (n1 : p ≠ b) (n2 : p ≠ g) : H p = none := by
  cases q : H p with
  | none => rfl
  | some o =>
    rw [k p o q n1 n2] at e
    cases e
theorem KeptB.of {b g : Addr} {H H' : Hp} (s : Same H H') : KeptB b g H H' := fun c o h _ _ => s c o h
theorem scQ : FnScope ["_law_bag_here", "_law_bottom"] ["_law_bag_here"] (defScope sQ) := ⟨rfl, rfl, rfl, by decide +kernel, rfl, by decide +kernel, by decide +kernel⟩
structure NumT (P : Program) (w : World) (K : PySem.W.Frag) (mg : Str → Option Value) (base : Heap) where
  fP : Addr
  fdP : FuncData
  fS : Addr
  fdS : FuncData
  fF : Addr
  fdF : FuncData
  FP : FnOk P w K mg base CX0 1 fP fdP ["_law_bag_here", "_law_many"] spPick
  FS : FnOk P w K mg base CX0 2 fS fdS ["_law_bag_here", "_law_things"] spSome
  FF : FnOk P w K mg base CX0 2 fF fdF ["_law_top", "_law_bottom"] spFrac
  bP : Binds K fdP ["_law_bag_here", "_law_many"] []
  bS : Binds K fdS ["_law_bag_here", "_law_things"] []
  bF : Binds K fdF ["_law_top", "_law_bottom"] []
  gP : mg "_law_pick" = some (.ref fP)
  gS : mg "_law_some" = some (.ref fS)
  gF : mg "_law_frac" = some (.ref fF)
  kP : PySem.W.keepIn K (.ref fP) = true
  kS : PySem.W.keepIn K (.ref fS) = true
  kF : PySem.W.keepIn K (.ref fF) = true
theorem ok_q {f : Addr} {fd : FuncData} (F : Fun K "_law_q" "_law_q" sQ f fd) (T : NumT P w K mg base) : FnOk P w K mg base CX0 3 f fd ["_law_bag_here"] spQ := by
  refine F.ok scQ (fun vs H Q E h => ?_) (fun cdv A outer s H vs Q E hr h => ?_)
  · obtain ⟨b, g, n, rfl, _⟩ := h
    rfl
  · obtain ⟨b, g, n, rfl, B, hn, q⟩ := h
    have hr1 : Room 1 _ := hr.mono (by decide)
    refine ⟨_, pss_cons (ps_set (i := 1) scQ.nd rfl (.inl rfl) (pe_call T.FS hr (by rfl) T.gS T.kS T.bS .nil pass0 (pa_cons (pv 0) (pa_cons (pe_lst (pa_cons pe_int (pa_cons pe_int (pa_cons pe_int (pa_cons pe_int (pa_cons pe_int (pa_cons pe_int pa_nil))))))) pa_nil))))
      (pss_one (ps_ret (pe_ifExp (pt_cmpR op_gt (pe_call T.FP hr1 (by rfl) T.gP T.kP T.bP .nil pass0 (pa_cons (pv 0) (pa_cons pe_int pa_nil))) pe_int (nomark _))
        (pe_call T.FF hr (by rfl) T.gF T.kF T.bF .nil pass0 (pa_cons (pe_op op_sub (pe_call T.FP hr1 (by rfl) T.gP T.kP T.bP .nil pass0 (pa_cons (pv 0) (pa_cons (pe_op op_add (pe_op op_mul pe_int (pv 1)) pe_int) pa_nil))) (pe_op op_mul pe_int (pv 1))) (pa_cons (pv 1) pa_nil)))
        (pe_tup (pa_cons pe_int (pa_cons pe_int pa_nil)))))), ?_⟩
    refine ⟨_, rfl, (by show 6 ≤ sizeLine; decide), fun l nl => ?_⟩
    obtain ⟨o1, o2⟩ := B.off (H2 := H) nl
    refine ⟨b, g, l, n, _, rfl, B.new nl, by omega, upd_same, o1, o2, by show 0 < 6; decide, by show 6 ≤ 1000; decide, fun j v H1 hv B1 K1 => ?_⟩
    obtain ⟨bt, rfl, h1, h4⟩ : ∃ bt : Int, v = .int bt ∧ 1 ≤ bt ∧ bt ≤ 4 := by
      have hm := List.mem_of_getElem? hv
      simp only [List.mem_cons, List.not_mem_nil, or_false] at hm
      rcases hm with rfl | rfl | rfl | rfl | rfl | rfl <;> exact ⟨_, rfl, by decide, by decide⟩
    have k1 : KeptB b g H H1 := (KeptB.of (same_upd nl)).trans K1
    refine ⟨_, rfl, b, g, n + 1, 3, rfl, B1, by omega, by decide, by decide +kernel, fun r H2 r0 r1 B2 K2 => ?_⟩
    have k2 : KeptB b g H H2 := k1.trans K2
    refine ⟨r, 0, rfl, rfl, _, rfl, ?_⟩
    refine ite2 (fun _ => ?_) (fun _ => ?_)
    · refine ⟨_, rfl, _, rfl, 8, bt, rfl, rfl, .inl (by decide), _, 1, rfl, rfl, b, g, n + 2, 8 * bt + 1, rfl, B2, by omega, by omega, ?_, fun r2 H3 r20 r21 B3 K3 => ?_⟩
      · exact Int.lt_of_le_of_lt (show 8 * bt + 1 ≤ 1000 by omega) (by decide +kernel)
      · refine ⟨_, rfl, 4, bt, rfl, rfl, .inl (by decide), r2, 4 * bt, rfl, rfl, _, rfl, r2 - 4 * bt, bt, rfl, ?_, ?_, fun p hp => ?_⟩
        · exact Nat.lt_of_le_of_lt (show (r2 - 4 * bt).natAbs ≤ 1000 by omega) (by decide +kernel)
        · exact Nat.lt_of_le_of_lt (show bt.natAbs ≤ 1000 by omega) (by decide +kernel)
        · obtain ⟨z1, z2⟩ := B3.off (H2 := H) hp
          have k3 := k2.trans K3
          exact q p _ _ _ (qf_of h1 h4 (by omega) (by omega)) (k3.trans (KeptB.of (same_upd hp))) (B3.new hp) (k3.free B hp z1 z2) upd_same
    · refine ⟨(by show 2 ≤ sizeLine; decide), fun p hp => ?_⟩
      obtain ⟨z1, z2⟩ := B2.off (H2 := H) hp
      exact q p 0 1 _ ⟨by decide, by decide, by decide, by decide, by decide⟩ (k2.trans (KeptB.of (same_upd hp))) ((B2.new hp).mono (by omega)) (k2.free B hp z1 z2) upd_same
theorem scC : FnScope ["_law_bag_here", "_law_great", "_law_top", "_law_bottom"] ["_law_bag_here"] (defScope sC) := ⟨rfl, rfl, rfl, by decide +kernel, rfl, by decide +kernel, by decide +kernel⟩
theorem ok_c {f : Addr} {fd : FuncData} (F : Fun K "_law_c" "_law_c" sC f fd) (T : NumT P w K mg base) : FnOk P w K mg base CX0 3 f fd ["_law_bag_here"] spC := by
  refine F.ok scC (fun vs H Q E h => ?_) (fun cdv A outer s H vs Q E hr h => ?_)
  · obtain ⟨b, g, n, rfl, _⟩ := h
    rfl
  · obtain ⟨b, g, n, rfl, B, hn, q⟩ := h
    have hr1 : Room 1 _ := hr.mono (by decide)
    refine ⟨_, pss_cons (ps_set (i := 1) scC.nd rfl (.inl rfl) (pe_call T.FS hr (by rfl) T.gS T.kS T.bS .nil pass0 (pa_cons (pv 0) (pa_cons (pe_lst (pa_cons pe_int (pa_cons pe_int (pa_cons pe_int (pa_cons pe_int (pa_cons pe_int (pa_cons (pe_op op_pow pe_int pe_int) (pa_cons pe_int (pa_cons (pe_op op_pow pe_int pe_int) pa_nil))))))))) pa_nil))))
      (pss_cons (ps_set (i := 2) scC.nd rfl (.inl rfl) (pe_op op_add pe_int (pe_call T.FP hr1 (by rfl) T.gP T.kP T.bP .nil pass0 (pa_cons (pv 0) (pa_cons (pe_op op_sub (pv 1) pe_int) pa_nil)))))
      (pss_cons (ps_set (i := 3) scC.nd rfl (.inl rfl) (pe_op op_add pe_int (pe_call T.FP hr1 (by rfl) T.gP T.kP T.bP .nil pass0 (pa_cons (pv 0) (pa_cons (pe_call T.FS hr (by rfl) T.gS T.kS T.bS .nil pass0 (pa_cons (pv 0) (pa_cons (pe_lst (pa_cons pe_int (pa_cons pe_int (pa_cons pe_int (pa_cons pe_int (pa_cons pe_int (pa_cons (pe_op op_sub (pv 1) pe_int) pa_nil))))))) pa_nil))) pa_nil)))))
      (pss_one (ps_ret (pe_call T.FF hr (by rfl) T.gF T.kF T.bF .nil pass0 (pa_cons (pe_ifExp (pt_cmpR op_eq (pe_call T.FP hr1 (by rfl) T.gP T.kP T.bP .nil pass0 (pa_cons (pv 0) (pa_cons pe_int pa_nil))) pe_int (nomark _)) (pv 2) (pe_un un_neg (pv 2))) (pa_cons (pv 3) pa_nil))))))), ?_⟩
    refine ⟨_, rfl, 10, 15, rfl, rfl, ⟨by decide, by decide, by decide⟩, 10, 30, rfl, rfl, ⟨by decide, by decide, by decide⟩, (by show 8 ≤ sizeLine; decide), fun l nl => ?_⟩
    obtain ⟨o1, o2⟩ := B.off (H2 := H) nl
    refine ⟨b, g, l, n, _, rfl, B.new nl, by omega, upd_same, o1, o2, by show 0 < 8; decide, by show 8 ≤ 1000; decide, fun j v H1 hv B1 K1 => ?_⟩
    have big : (10 : Int) ^ 30 < 2 ^ 100 := by decide +kernel
    obtain ⟨gr, rfl, h1, h4⟩ : ∃ gr : Int, v = .int gr ∧ 3 ≤ gr ∧ gr ≤ 10 ^ 30 := by
      have hm := List.mem_of_getElem? hv
      simp only [List.mem_cons, List.not_mem_nil, or_false] at hm
      rcases hm with rfl | rfl | rfl | rfl | rfl | rfl | rfl | rfl <;> exact ⟨_, rfl, by decide +kernel, by decide +kernel⟩
    have b2 : (10 : Int) ^ 30 < 2 ^ 1000 := by decide +kernel
    have b3 : (10 : Nat) ^ 30 < 2 ^ 1000 := by decide +kernel
    have k1 : KeptB b g H H1 := (KeptB.of (same_upd nl)).trans K1
    refine ⟨_, rfl, _, rfl, gr, 1, rfl, rfl, b, g, n + 1, gr - 1, rfl, B1, by omega, by omega, Int.lt_of_le_of_lt (by omega) b2, fun r H2 r0 r1 B2 K2 => ?_⟩
    have k2 : KeptB b g H H2 := k1.trans K2
    refine ⟨1, r, rfl, rfl, ?_⟩
    refine ⟨_, rfl, _, rfl, _, rfl, gr, 1, rfl, rfl, (by show 6 ≤ sizeLine; decide), fun l2 nl2 => ?_⟩
    obtain ⟨o3, o4⟩ := B2.off (H2 := H) nl2
    refine ⟨b, g, l2, n + 2, _, rfl, B2.new nl2, by omega, upd_same, o3, o4, by show 0 < 6; decide, by show 6 ≤ 1000; decide, fun j2 v2 H3 hv2 B3 K3 => ?_⟩
    have k3 : KeptB b g H H3 := k2.trans ((KeptB.of (same_upd nl2)).trans K3)
    obtain ⟨m, rfl, m1, m2⟩ : ∃ m : Int, v2 = .int m ∧ 0 < m ∧ m < 10 ^ 30 := by
      have hm := List.mem_of_getElem? hv2
      have z : (12 : Int) < 10 ^ 30 := by decide +kernel
      simp only [List.mem_cons, List.not_mem_nil, or_false] at hm
      rcases hm with rfl | rfl | rfl | rfl | rfl | rfl <;> exact ⟨_, rfl, by omega, by omega⟩
    refine ⟨b, g, n + 3, m, rfl, B3, by omega, m1, Int.lt_trans m2 b2, fun r3 H4 r30 r31 B4 K4 => ?_⟩
    have k4 : KeptB b g H H4 := k3.trans K4
    refine ⟨1, r3, rfl, rfl, ?_⟩
    refine ⟨_, rfl, b, g, n + 4, 2, rfl, B4, by omega, by decide, by decide +kernel, fun r5 H5 _ _ B5 K5 => ?_⟩
    have k5 : KeptB b g H H5 := k4.trans K5
    have fin : ∀ x : Int, x ≠ 0 → x.natAbs < 10 ^ 30 → spFrac [.int x, .int (1 + r3)] H5 Q (fun _ _ _ => False) := by
      intro x x0 xb
      refine ⟨x, 1 + r3, rfl, Nat.lt_trans xb b3, Nat.lt_trans (show (1 + r3).natAbs < 10 ^ 30 by omega) b3, fun p hp => ?_⟩
      obtain ⟨z1, z2⟩ := B5.off (H2 := H) hp
      exact q p _ _ _ (cf_of (by omega) (by omega) x0 xb) (k5.trans (KeptB.of (same_upd hp))) (B5.new hp) (k5.free B hp z1 z2) upd_same
    refine ⟨rfl, _, rfl, ?_⟩
    refine ite2 (fun _ => ?_) (fun _ => ?_)
    · refine ⟨_, rfl, _, rfl, ?_⟩
      exact fin (1 + r) (by omega) (by omega)
    · refine ⟨_, rfl, 1 + r, rfl, _, rfl, ?_⟩
      exact fin (-(1 + r)) (by omega) (by omega)
end
end Nm

/-! Dicts whose keys are pairs of a fraction and a number: kept, read, filled, walked. -/
namespace Nm
open PySem PySem.Spec PyProof.Rows L2

/-- an entry: (top, bottom, number), the key's own tuple, the value's object -/
abbrev EN := (Int × Int × Int) × Addr × Addr
def nkey (k : Int × Int × Int) : NestedKey := .tup [.tup [.num k.1, .num k.2.1], .num k.2.2]
theorem nkey_inj {a b : Int × Int × Int} (h : nkey a = nkey b) : a = b := by
  obtain ⟨a1, a2, a3⟩ := a
  obtain ⟨b1, b2, b3⟩ := b
  simp only [nkey, NestedKey.tup.injEq, List.cons.injEq, NestedKey.num.injEq, and_true] at h
  obtain ⟨⟨h1, h2⟩, h3⟩ := h
  rw [h1, h2, h3]
def toX (e : EN) : NestedKey × Addr × Value := (nkey e.1, e.2.1, .ref e.2.2)
/-- the dict's object at d -/
def dN (P : Program) (w : World) (d : Addr) (es : List EN) : HO := .ext fun h => ∃ o ens ep, h.get? d = some o ∧ o.ExactDict ∧ o.data = .dict ens ep ∧ ens.toList = (es.map toX).map (entryOfKey (nestedKind P w))
structure NDict (P : Program) (w : World) (H : Hp) (d : Addr) (es : List EN) : Prop where
  at_ : Rd H d (dN P w d es)
  sys : (d == sysModules) = false
  len : es.length ≤ 1000
  nd : (es.map (·.1)).Nodup
  key : ∀ e ∈ es, ∃ qa, H e.2.1 = some (.tup [.ref qa, .int e.1.2.2]) ∧ H qa = some (.tup [.int e.1.1, .int e.1.2.1])
theorem dN_own {P : Program} {w : World} {d x : Addr} {es : List EN} : dN P w d es ≠ .own x := fun z => by
  have z' : HO.ext _ = HO.own x := z
  cases z'
theorem dN_ok {P : Program} {w : World} {H : Hp} {h : Heap} {d : Addr} {es : List EN} (x : ∃ o ens ep, h.get? d = some o ∧ o.ExactDict ∧ o.data = .dict ens ep ∧ ens.toList = (es.map toX).map (entryOfKey (nestedKind P w))) : ObjOk P w H h d (dN P w d es) := by
  obtain ⟨o, ens, ep, e1, e2, e3, e4⟩ := x
  exact ⟨⟨o, ens, ep, e1, e2, e3, e4⟩, ⟨o, e1⟩, fun h1 h2 z k => by
    obtain ⟨o, ens, ep, e1, r⟩ := z
    exact ⟨o, ens, ep, k _ e1, r⟩⟩
theorem dN_at {P : Program} {w : World} {H : Hp} {h : Heap} {d : Addr} {es : List EN} (x : ObjOk P w H h d (dN P w d es)) : ∃ o ens ep, h.get? d = some o ∧ o.ExactDict ∧ o.data = .dict ens ep ∧ ens.toList = (es.map toX).map (entryOfKey (nestedKind P w)) := by
  have y : ObjOk P w H h d (.ext fun h => ∃ o ens ep, h.get? d = some o ∧ o.ExactDict ∧ o.data = .dict ens ep ∧ ens.toList = (es.map toX).map (entryOfKey (nestedKind P w))) := x
  exact y.1
section
variable {X : Cx} {pins : List (Addr × Obj)} {σ : L2.St} {H : Hp} {s : Shared} {d : Addr} {es : List EN}
theorem key_is (I : Inv X pins σ H s) {k : Int × Int × Int} {ka qa : Addr} (h1 : H ka = some (.tup [.ref qa, .int k.2.2])) (h2 : H qa = some (.tup [.int k.1, .int k.2.1])) : (nestedKind X.prog X.w).is s.heap (nkey k) ka := by
  obtain ⟨_, its, r1, o, ho, hc, n, hd⟩ := (show ObjOk X.prog X.w H s.heap ka (.tup [.ref qa, .int k.2.2]) from I.hok ka _ h1)
  obtain ⟨_, its2, r2, o2, ho2, hc2, n2, hd2⟩ := (show ObjOk X.prog X.w H s.heap qa (.tup [.int k.1, .int k.2.1]) from I.hok qa _ h2)
  obtain ⟨u1, u2, rfl, ra, rb⟩ := vals2 r1
  obtain ⟨u3, u4, rfl, rc, rd⟩ := vals2 r2
  obtain rfl : u1 = Value.ref qa := ra
  obtain ⟨t2, rfl⟩ := (show ∃ t, u2 = Value.int k.2.2 t from rb)
  obtain ⟨t3, rfl⟩ := (show ∃ t, u3 = Value.int k.1 t from rc)
  obtain ⟨t4, rfl⟩ := (show ∃ t, u4 = Value.int k.2.1 t from rd)
  exact ⟨.tup ho hc hd (.cons (.tup ho2 hc2 hd2 (.cons (.int _ _) (.cons (.int _ _) .nil))) (.cons (.int _ _) .nil)), by show NestedKey.depth (nkey k) ≤ 8; simp [nkey, NestedKey.depth, NestedKey.depthAll]⟩
theorem nd_heap (I : Inv X pins σ H s) (N : NDict X.prog X.w H d es) : s.heap.DictOfH (nestedKind X.prog X.w) d (es.map toX) := by
  obtain ⟨o, ens, ep, e1, e2, e3, e4⟩ := dN_at (N.at_.ok I.hok)
  refine ⟨o, ens, ep, e1, e2, e3, e4, fun x hx => ?_, ?_⟩
  · obtain ⟨e, he, rfl⟩ := List.mem_map.mp hx
    obtain ⟨qa, h1, h2⟩ := N.key e he
    exact key_is I h1 h2
  · rw [List.map_map]
    have z : (Prod.fst ∘ toX) = fun e : EN => nkey e.1 := rfl
    rw [z]
    have z2 : (es.map fun e : EN => nkey e.1) = (es.map (·.1)).map nkey := by rw [List.map_map]; rfl
    rw [z2]
    exact List.Pairwise.map nkey (fun a b n e => n (nkey_inj e)) N.nd
end
/-! ### a thing is stored under a key -/
def hasE (es : List EN) (k : Int × Int × Int) : Bool := es.any fun e => decide (e.1 = k)
def putE (es : List EN) (k : Int × Int × Int) (ka va : Addr) : List EN := if hasE es k then es.map (fun e => if e.1 = k then (e.1, e.2.1, va) else e) else es ++ [(k, ka, va)]
theorem at_has (es : List EN) (k : Int × Int × Int) : (atKey (es.map toX) (nkey k)).isSome = hasE es k := by
  induction es with
  | nil => rfl
  | cons e es ih =>
    by_cases h : e.1 = k
    · have h' : (toX e).1 = nkey k := by rw [← h]; rfl
      simp [atKey, hasE, h, h']
    · have h' : ¬ (toX e).1 = nkey k := fun z => h (nkey_inj z)
      simpa [atKey, hasE, h, h'] using ih
theorem put_x (es : List EN) (k : Int × Int × Int) (ka va : Addr) : storedH (es.map toX) (nkey k) ka (.ref va) = (putE es k ka va).map toX := by
  unfold storedH putE
  rw [at_has]
  split
  · rw [List.map_map, List.map_map]
    refine List.map_congr_left fun e _ => ?_
    by_cases h : e.1 = k
    · have h' : (toX e).1 = nkey k := by rw [← h]; rfl
      simp [putAt, h, h', toX]
    · have h' : ¬ (toX e).1 = nkey k := fun z => h (nkey_inj z)
      simp [putAt, h, h']
  · rw [List.map_append]
    rfl
theorem put_len (es : List EN) (k : Int × Int × Int) (ka va : Addr) : (putE es k ka va).length ≤ es.length + 1 := by
  unfold putE
  split
  · simp
  · simp
theorem put_mem {es : List EN} {k : Int × Int × Int} {ka va : Addr} {e : EN} (h : e ∈ putE es k ka va) : e = (k, ka, va) ∨ (e.1 = k ∧ e.2.2 = va ∧ ∃ v, (k, e.2.1, v) ∈ es) ∨ e ∈ es := by
  unfold putE at h
  split at h
  · obtain ⟨x, hx, rfl⟩ := List.mem_map.mp h
    split
    · rename_i q
      refine .inr (.inl ⟨q, rfl, x.2.2, ?_⟩)
      rw [← q]
      exact hx
    · exact .inr (.inr hx)
  · rcases List.mem_append.mp h with h | h
    · exact .inr (.inr h)
    · exact .inl (List.mem_singleton.mp h)
theorem put_nd {es : List EN} {k : Int × Int × Int} {ka va : Addr} (n : (es.map (·.1)).Nodup) : ((putE es k ka va).map (·.1)).Nodup := by
  unfold putE
  split
  · rw [List.map_map]
    have z : ((fun e : EN => e.1) ∘ fun e : EN => if e.1 = k then (e.1, e.2.1, va) else e) = fun e : EN => e.1 := by
      funext e
      show (if e.1 = k then (e.1, e.2.1, va) else e).1 = e.1
      split <;> rfl
    rw [z]
    exact n
  · rename_i h
    rw [List.map_append]
    refine List.nodup_append.mpr ⟨n, by simp, fun a ha b hb => ?_⟩
    obtain rfl : b = k := by simpa using hb
    intro e
    subst e
    obtain ⟨x, hx, e⟩ := List.mem_map.mp ha
    exact h (by unfold hasE; rw [List.any_eq_true]; exact ⟨x, hx, by simp [e]⟩)
section
variable {P : Program} {w : World} {H : Hp} {d : Addr} {es : List EN}
theorem NDict.put {k : Int × Int × Int} {ka va qa : Addr} (N : NDict P w H d es) (hd : H d = some (dN P w d es)) (hl : es.length < 1000) (h1 : H ka = some (.tup [.ref qa, .int k.2.2])) (h2 : H qa = some (.tup [.int k.1, .int k.2.1])) :
    NDict P w (L2.upd H d (dN P w d (putE es k ka va))) d (putE es k ka va) where
  at_ := .inl upd_same
  sys := N.sys
  len := by have := put_len es k ka va; omega
  nd := put_nd N.nd
  key := fun e he => by
    have up : ∀ x xs, H x = some (.tup xs) → L2.upd H d (dN P w d (putE es k ka va)) x = some (.tup xs) := fun x xs q => by
      rw [upd_ne (ne_of q hd (fun z => nomatch z))]
      exact q
    rcases put_mem he with rfl | ⟨e1, _, v, hm⟩ | hm
    · exact ⟨qa, up _ _ h1, up _ _ h2⟩
    · obtain ⟨q, a1, a2⟩ := N.key _ hm
      rw [e1]
      exact ⟨q, up _ _ a1, up _ _ a2⟩
    · obtain ⟨q, a1, a2⟩ := N.key _ hm
      exact ⟨q, up _ _ a1, up _ _ a2⟩
/-- while it and the tuples stay -/
theorem NDict.keep {H' : Hp} (N : NDict P w H d es) (hd : Rd H' d (dN P w d es)) (k : ∀ c xs, H c = some (.tup xs) → H' c = some (.tup xs)) : NDict P w H' d es :=
  ⟨hd, N.sys, N.len, N.nd, fun e he => let ⟨q, a1, a2⟩ := N.key e he; ⟨q, k _ _ a1, k _ _ a2⟩⟩
theorem NDict.lock {o : Obj} (N : NDict P w H d es) (hd : H d = some (dN P w d es)) : NDict P w (L2.upd H d (.frz o (dN P w d es))) d es :=
  N.keep (.inr ⟨o, upd_same⟩) fun c xs q => by rw [upd_ne (ne_of q hd (fun z => nomatch z))]; exact q
theorem NDict.open {o : Obj} (N : NDict P w H d es) (hd : H d = some (.frz o (dN P w d es))) : NDict P w (L2.upd H d (dN P w d es)) d es :=
  N.keep (.inl upd_same) fun c xs q => by rw [upd_ne (ne_of q hd (fun z => nomatch z))]; exact q
theorem NDict.nil {p : Addr} (hs : (p == sysModules) = false) : NDict P w (L2.upd H p (dN P w p [])) p [] :=
  ⟨.inl upd_same, hs, Nat.zero_le _, List.nodup_nil, fun _ h => nomatch h⟩
theorem dN_mut : Mut (some (dN P w d es)) := True.intro
end
/-! ### the rules -/
section
variable {X : Cx} {o i value : Expr} {pos pos' : Pos} {td ty tv : TE}
def tNNew (P : Program) (w : World) : TE := fun _ H Q => ∀ p, H p = none → (p == sysModules) = false → Q (.ref p) (L2.upd H p (dN P w p []))
theorem pe_nnew : PE X (.Dict [] [] pos) (tNNew X.prog X.w) := ⟨fun pins s σ H Q I h =>
  wpAny_Dict_empty ⟨.ref s.heap.objs.size, _, I.laid (a := s.heap.objs.size) (o := dN X.prog X.w s.heap.objs.size []) (t' := s.toks) (fun _ _ q => Heap.get?_push_of_some _ q) (Nat.le_refl _) (dN_ok ⟨_, #[], 0, Heap.get?_push_size _ rfl, ⟨rfl, rfl, rfl⟩, rfl, rfl⟩), rfl, h _ (I.hok.fresh (Nat.le_refl _)) (beq_eq_false_iff_ne.mpr (Ne.symm (Nat.ne_of_lt I.big)))⟩⟩
def sNPut (P : Program) (w : World) (td ty tv : TE) : TS := fun D σ H => tv σ H fun v H1 => td σ H1 fun x H2 => ty σ H2 fun y H3 => ∃ (d : Addr) (es : List EN) (k : Int × Int × Int) (ka qa va : Addr),
  x = .ref d ∧ y = .ref ka ∧ v = .ref va ∧ H3 d = some (dN P w d es) ∧ NDict P w H3 d es ∧ es.length < 1000 ∧ H3 ka = some (.tup [.ref qa, .int k.2.2]) ∧ H3 qa = some (.tup [.int k.1, .int k.2.1]) ∧ D.nx σ (L2.upd H3 d (dN P w d (putE es k ka va)))
theorem ps_nput {j : Nat} (hr : Room j X.A) (ho : PE X o td) (hi : PE X i ty) (hv : PE X value tv) (hs : swapsWith value (some (.Subscript o i pos')) pos.line X.env = pure false := by rfl) :
    PS X (.Assign [.Subscript o i pos'] value pos) (sNPut X.prog X.w td ty tv) := by
  refine ⟨fun pins s σ H D I h => ?_⟩
  refine wpAny_Assign_Subscript (thn (hv.run pins s σ H _ I h) fun r s1 ⟨v, H1, I1, rv, q1⟩ => thn (ho.run pins s1 σ H1 _ I1 q1) fun u s2 ⟨x, H2, I2, rx, q2⟩ => thn (hi.run pins s2 σ H2 _ I2 q2) fun iv s3 ⟨y, H3, I3, ry, d, es, k, ka, qa, va, ex, ey, ev, hd, N, hl, h1, h2, q3⟩ => ?_) hs
  subst ex ey ev
  obtain rfl : u = Value.ref d := rx
  obtain rfl : iv = Value.ref ka := ry
  obtain rfl : r = Value.ref va := rv
  have hsz : (es.map toX).length ≤ sizeLine := by
    rw [List.length_map]
    exact Nat.le_trans (Nat.le_of_lt hl) (by decide)
  refine wpAny_setItem_heap (hsz := hsz) (show X.A.in1.units + 8 < cLine by have := hr.units; show X.A.units + 1 + 8 < cLine; omega) (key_is I3 h1 h2) (nd_heap I3 N) fun h' dd hs => ⟨σ, _, ?_, q3⟩
  rw [put_x] at dd
  obtain ⟨ob, ens, ep, e1, e2, e3, e4, _⟩ := dd
  exact I3.write (x := d) (e := d) (by rw [hd]; exact dN_mut) (.inl rfl) (fun b q hb z => (hs.2 b hb).trans z) ⟨ob, e1⟩ (dN_ok ⟨ob, ens, ep, e1, e2, e3, e4⟩)
/-- d[k], k being there -/
def tNGet (P : Program) (w : World) (td ty : TE) : TE := fun σ H Q => td σ H fun x H1 => ty σ H1 fun y H2 => ∃ (d : Addr) (es : List EN) (e : EN) (ka qa : Addr),
  x = .ref d ∧ y = .ref ka ∧ NDict P w H2 d es ∧ e ∈ es ∧ H2 ka = some (.tup [.ref qa, .int e.1.2.2]) ∧ H2 qa = some (.tup [.int e.1.1, .int e.1.2.1]) ∧ Q (.ref e.2.2) H2
theorem pe_nget {j : Nat} (hr : Room j X.A) (ho : PE X o td) (hi : PE X i ty) (hs : NoSl i) : PE X (.Subscript o i pos) (tNGet X.prog X.w td ty) := by
  refine ⟨fun pins s σ H Q I h => ?_⟩
  refine subD_of PySem.F.slot_dict_getitem.lookup hs (thn (ho.run pins s σ H _ I h) fun u s1 ⟨x, H1, I1, rx, q1⟩ => thn (hi.run pins s1 σ H1 _ I1 q1) fun iv s2 ⟨y, H2, I2, ry, d, es, e, ka, qa, ex, ey, N, he, h1, h2, q2⟩ => ?_)
  subst ex ey
  obtain rfl : u = Value.ref d := rx
  obtain rfl : iv = Value.ref ka := ry
  have hd := nd_heap I2 N
  refine ⟨hd.typeIs, ?_⟩
  obtain ⟨n, hn, hn2⟩ := List.getElem_of_mem he
  have hx : (es.map toX)[n]? = some (nkey e.1, e.2.1, .ref e.2.2) := by
    rw [List.getElem?_map, List.getElem?_eq_getElem hn, hn2]
    rfl
  have hat := atKey_of_get hd.nodup hx
  exact wpAny_getItem_heap (show X.A.in1.units + 8 < cLine by have := hr.units; show X.A.units + 1 + 8 < cLine; omega) (key_is I2 h1 h2) hd hat ⟨.ref e.2.2, H2, I2.tok _, rfl, q2⟩
/-- the same within a comprehension: P, w as its def has them -/
theorem pe_ngetC {P : Program} {w : World} (hP : X.prog = P) (hw : X.w = w) {j : Nat} (hr : Room j X.A) (ho : PE X o td) (hi : PE X i ty) (hs : NoSl i) : PE X (.Subscript o i pos) (tNGet P w td ty) := by
  subst hP hw
  exact pe_nget hr ho hi hs
theorem ix_tupC {K : PySem.W.Frag} (hK : X.K = K) : IxR X (rIxT K) := by
  subst hK
  exact ix_tup
theorem pe_nnewC {P : Program} {w : World} (hP : X.prog = P) (hw : X.w = w) : PE X (.Dict [] [] pos) (tNNew P w) := by
  subst hP hw
  exact pe_nnew
theorem ps_nputC {P : Program} {w : World} (hP : X.prog = P) (hw : X.w = w) {j : Nat} (hr : Room j X.A) (ho : PE X o td) (hi : PE X i ty) (hv : PE X value tv) (hs : swapsWith value (some (.Subscript o i pos')) pos.line X.env = pure false := by rfl) :
    PS X (.Assign [.Subscript o i pos'] value pos) (sNPut P w td ty tv) := by
  subst hP hw
  exact ps_nput hr ho hi hv hs
/-! ### the keys, walked -/
def Itn (P : Program) (w : World) (d : Addr) (o : Obj) (es : List EN) : It :=
  ⟨fun i H => (H d = some (.frz o (dN P w d es)) ∧ NDict P w H d es) ∧ i < es.length, fun i H x H' => H' = H ∧ ∃ e, es[i]? = some e ∧ x = .ref e.2.1, fun i H => (H d = some (.frz o (dN P w d es)) ∧ NDict P w H d es) ∧ es.length ≤ i⟩
theorem Inv.frzN {pins : List (Addr × Obj)} {σ : L2.St} {H : Hp} {s : Shared} {d : Addr} {o : Obj} {es : List EN} (I : Inv X pins σ H s) (h : H d = some (.frz o (dN X.prog X.w d es))) :
    s.heap.get? d = some o ∧ o.ExactDict ∧ ∃ (ens : Array DictEntry) (ep : Nat), o.data = .dict ens ep ∧ ens.size = es.length ∧ ∀ (i : Nat) (e : EN), es[i]? = some e → ∃ en : DictEntry, ens[i]? = some en ∧ en.key = .ref e.2.1 := by
  obtain ⟨hd, z⟩ := (show s.heap.get? d = some o ∧ ObjOk X.prog X.w H s.heap d (dN X.prog X.w d es) from I.hok d _ h)
  obtain ⟨o', ens, ep, e1, e2, e3, e4⟩ := dN_at z
  rw [hd] at e1
  cases e1
  refine ⟨hd, e2, ens, ep, e3, ?_, fun i e he => ?_⟩
  · have l := congrArg List.length e4
    simpa using l
  · have q := entry_at e4 i
    rw [List.getElem?_map, he] at q
    exact ⟨_, q, rfl⟩
end
section
variable {P : Program} {w : World} {K : PySem.W.Frag} {tg : Expr} {d : Addr} {o : Obj} {ens : Array DictEntry} {ep : Nat}
theorem turn_keysN {es : List EN} (it : Addr) (hod : o.data = .dict ens ep) : Turn P w K tg (Itn P w d o es) [it] it (fun i h => h.IsKeyIter it d i es.length ep) where
  mem := by simp
  obj := fun i h st b hb => by
    have e : b = it := by simpa using hb
    subst e
    obtain ⟨oi, e, c, dd⟩ := st
    exact ⟨oi, e, fun v z => by rw [dd] at z; cases z⟩
  keep := fun i h h' st k => st.at fun oi e => k it (by simp) oi e
  item := by
    intro X hP hw hK hc i pins s σ H E I hf st hg
    subst hP hw hK
    obtain ⟨⟨hd, N⟩, hi⟩ := hg
    obtain ⟨f0, f1, f2, f3, f4, f5⟩ := hf it (by simp)
    obtain ⟨hgd, hx, es', ep', hdt, hsz, ent⟩ := Inv.frzN I hd
    obtain ⟨rfl, rfl⟩ := dict_ep hod hdt
    obtain ⟨e, he⟩ : ∃ p, es[i]? = some p := ⟨es[i], List.getElem?_eq_getElem hi⟩
    obtain ⟨en, hen, hkey⟩ := ent i e he
    refine next_key_item st hgd hdt hsz hen fun h' st' sb => ?_
    have I1 : Inv X pins σ H { s with heap := h' } := I.turned (t' := s.toks) (fun b ob hb e => (sb.2 b hb).trans e) f0 f1 f3 f4 f5
    obtain ⟨oi, e1, c, dd⟩ := id st'
    exact ⟨en.key, rfl, go_of (s := { s with heap := h' }) e1 c dd (by decide) ⟨.ref e.2.1, H, I1, hkey, ⟨rfl, e, he, rfl⟩, st', fun b hb => (hf b hb).1⟩⟩
  done := by
    intro X hP hw hK hc i pins s σ H E I hf st hg
    subst hP hw hK
    obtain ⟨⟨hd, N⟩, hi⟩ := hg
    obtain ⟨f0, f1, f2, f3, f4, f5⟩ := hf it (by simp)
    obtain ⟨hgd, hx, es', ep', hdt, hsz, ent⟩ := Inv.frzN I hd
    obtain ⟨rfl, rfl⟩ := dict_ep hod hdt
    exact next_key_end (I.ok.hd hc) st hgd hdt hsz hi fun h' eb => ⟨rfl, I.turned (t' := s.toks) (fun b ob hb e => eb b ob hb e) f0 f1 f3 f4 f5⟩
  self := fun A i s Q E st h => by
    refine wpAny_pyIter_slot st.typeIs F.slot_dict_keyiterator_iter (wpAny_call_entry F.slot_dict_keyiterator_iter st.typeIs F.entry_dict_keyiterator_iter ?_ (F.args_dict_keyiterator_iter_1 _))
    show wpAny _ _ (ret (.ref it)) _ _ s
    exact wpAny_pure ⟨_, rfl, "dict_keyiterator", _, st.typeIs, F.slot_dict_keyiterator_next.lookup, h⟩
end
def iNKeys (P : Program) (w : World) (td : TE) : TI := fun σ H R => td σ H fun x H1 => ∃ (d : Addr) (o : Obj) (es : List EN), x = .ref d ∧ H1 d = some (.frz o (dN P w d es)) ∧ NDict P w H1 d es ∧ R (Itn P w d o es) H1
section
variable {X : Cx} {tg e : Expr} {td : TE}
theorem pi_nkeys (he : PE X e td) : PI X tg e (iNKeys X.prog X.w td) := by
  refine ⟨fun pins s σ H R I h => ?_⟩
  refine thn (he.run pins s σ H _ I h) fun u s1 ⟨x, H1, I1, rx, d, o, es, ex, hd, N, q⟩ => ?_
  subst ex
  obtain rfl : u = Value.ref d := rx
  obtain ⟨hgd, hx, ens, ep, hdt, hsz, ent⟩ := Inv.frzN I1 hd
  refine iter_keys N.sys hgd hx hdt (pi_one (tk := s1.toks) I1 _ (turn_keysN _ hdt) ⟨_, Heap.get?_push_size _ rfl, rfl, ?_⟩ q)
  rw [hsz] <;> rfl
end
theorem lc_n {P : Program} {w : World} {d : Addr} {o : Obj} {es : List EN} {g : TG} {tt : TT} {te : TE} {vs : List Nat} {σ : L2.St} {H1 : Hp} {D : Addr} {Qd : Hp → Prop} (Pv : Nat → Hp → Prop) (h0 : Pv 0 (L2.upd H1 D (.lst [])))
    (hl : ∀ i H, i ≤ es.length → Pv i H → H d = some (.frz o (dN P w d es)) ∧ NDict P w H d es)
    (hs : ∀ i e H, es[i]? = some e → Pv i H → g (.ref e.2.1) (wipe σ vs) H fun σ2 H2 => wipe σ2 vs = wipe σ vs ∧ tt σ2 H2 fun b H3 =>
      if b = true then te σ2 H3 fun y H4 => ∃ acc, H4 D = some (.lst acc) ∧ acc.length < sizeLine ∧ Pv (i + 1) (L2.upd H4 D (.lst (acc ++ [y]))) else Pv (i + 1) H3) (hd : ∀ H, Pv es.length H → Qd H) :
    ∃ W : Nat → Nat → Hp → Prop, (∃ m, W 0 m (L2.upd H1 D (.lst []))) ∧ ∀ i m H, W i m H →
      ((Itn P w d o es).stop i H ∧ Qd H) ∨ ((Itn P w d o es).go i H ∧ ∃ Nx : Hp → Prop, (∀ H', Nx H' → ∃ m', m' < m ∧ W (i + 1) m' H') ∧ ∀ x H', (Itn P w d o es).yld i H x H' → g x (wipe σ vs) H' fun σ2 H2 => wipe σ2 vs = wipe σ vs ∧ tt σ2 H2 fun b H3 =>
        if b = true then te σ2 H3 fun y H4 => ∃ acc, H4 D = some (.lst acc) ∧ acc.length < sizeLine ∧ Nx (L2.upd H4 D (.lst (acc ++ [y]))) else Nx H3) := by
  refine ⟨fun i m H => m = es.length - i ∧ i ≤ es.length ∧ Pv i H, ⟨es.length, by simp, Nat.zero_le _, h0⟩, ?_⟩
  rintro i m H ⟨rfl, hi, p⟩
  have q := hl i H hi p
  by_cases hlt : i < es.length
  · refine .inr ⟨⟨q, hlt⟩, Pv (i + 1), fun H' p' => ⟨es.length - (i + 1), by omega, rfl, hlt, p'⟩, fun x H' y => ?_⟩
    obtain ⟨e, en, he, rfl⟩ := y
    subst e
    exact hs i en _ he p
  · have e : i = es.length := by omega
    subst e
    exact .inl ⟨⟨q, Nat.le_refl _⟩, hd H p⟩
end Nm

/-! sorted(xs, key=lambda of a pair of a fraction and a number). -/
namespace Nm
open PySem PySem.Spec PyProof.Rows L2 LamX
section
variable {prog : Program} {w : World} {A : Around} {E : Value → Shared → Prop} {env : Env} {s : Shared} {Q : Value → Shared → Prop}
theorem sub_tup {value : Expr} {i : Int} {ii : Nat} {j : Nat} {a : Addr} {items : Array Value} {x : Value} {p1 p2 : Pos} (hv : wpAny (model prog w) A (eval value env) (fun o s1 => o = .ref a ∧ IsTup s1.heap a items ∧ Q x { s1 with toks := s1.toks + 1 }) E s)
    (hi : -(2 ^ 63) ≤ i) (hi2 : i < 2 ^ 63) (hj : seqIndex? i items.size = some j) (hx : items[j]? = some x) : wpAny (model prog w) A (eval (.Subscript value (.Constant (.int i) ii p1) p2) env) Q E s := by
  refine Subscript_ (wpAny_mono hv (fun o s1 h => ?_) fun _ _ h => h)
  obtain ⟨rfl, ht, h⟩ := h
  refine wpAny_Constant_int ?_
  have ht' : IsTup ({ s1 with toks := s1.toks + 1 } : Shared).heap a items := ht
  exact subscriptTail_builtinR (x := x) ht'.typeIs slot_tuple_getitem.lookup (getItem_tuple (j := j) (Q := fun r s' => r = x ∧ Q r s') ht' hi hi2 hj hx ⟨rfl, h⟩)
/-- the body of the lambda, at the pair a -/
theorem key_body {key every : Str} {a q cc : Addr} {m : Str → Option Value} {n t u k : Int} {tn tt tu tk : Tok} {i1 i2 i3 i4 i5 i6 : Nat} {p1 p2 p3 p4 p5 p6 p7 p8 p9 p10 p11 p12 p13 p14 p15 p16 p17 : Pos}
    (hk : env.scope.kind = .function) (hl : env.kindOf key = some .local) (he : env.kindOf every = some .free) (hn : s.heap.Ns env.locals m) (hm : m key = some (.ref a)) (hc : env.cells.lookup every = some cc) (hcell : s.heap.IsCell cc (some (.int n tn)))
    (ha : IsTup s.heap a #[.ref q, .int k tk]) (hq : IsTup s.heap q #[.int t tt, .int u tu]) (hu : 0 < u ∧ u < 1073741824) (hmul : CMul t (n.fdiv u))
    (h : ∀ t1 tk', Q (.ref s.heap.objs.size) { s with heap := s.heap.push { cls := .type "tuple", data := .seq #[.int (t * n.fdiv u) t1, .int k tk] }, toks := tk' }) (d1 : (key == ("__debug__" : Str)) = false := by decide) (d2 : (every == ("__debug__" : Str)) = false := by decide) (d3 : (every == ("__classdict__" : Str)) = false := by decide) :
    wpAny (model prog w) A (eval (.Tuple [.BinOp (.Subscript (.Subscript (.Name key p1) (.Constant (.int 0) i1 p2) p3) (.Constant (.int 0) i2 p4) p5) .Mult (.BinOp (.Name every p6) .FloorDiv (.Subscript (.Subscript (.Name key p7) (.Constant (.int 0) i3 p8) p9) (.Constant (.int 1) i4 p10) p11) p12) p13,
      .Subscript (.Name key p14) (.Constant (.int 1) i5 p15) p16] i6 p17) env) Q E s := by
  have hkey : ∀ (tk0 : Nat) (p : Pos) (R : Value → Shared → Prop), R (.ref a) { s with toks := tk0 } → wpAny (model prog w) A (eval (.Name key p) env) R E { s with toks := tk0 } := fun tk0 p R r =>
    wpAny_Name (wpAny_loadName_local hk hl (s := { s with toks := tk0 }) hn hm r) d1
  have hq0 : ∀ (tk0 : Nat) (i : Nat) (p p' p'' : Pos) (R : Value → Shared → Prop), R (.ref q) { s with toks := tk0 + 1 } → wpAny (model prog w) A (eval (.Subscript (.Name key p) (.Constant (.int 0) i p') p'') env) R E { s with toks := tk0 } := fun tk0 i p p' p'' R r =>
    sub_tup (a := a) (j := 0) (hkey tk0 p _ ⟨rfl, ha, r⟩) (by decide) (by decide) rfl rfl
  refine wpAny_Tuple_spliced ?_
  refine Calls.spliced_cons (wpAny_BinOp (sub_tup (a := q) (j := 0) (hq0 s.toks i1 p1 p2 p3 _ ⟨rfl, hq, ?_⟩) (by decide) (by decide) rfl rfl))
  refine wpAny_BinOp (wpAny_Name (wpAny_loadName_free hk he hc hcell ?_ d3) d2)
  refine sub_tup (a := q) (j := 1) (hq0 _ i3 p7 p8 p9 _ ⟨rfl, hq, ?_⟩) (by decide) (by decide) rfl rfl
  refine floordiv_int (by omega) ?_ (.inl (PyProof.noPylong_small (by omega)))
  refine mul_int ?_ hmul.ok
  refine Calls.spliced_cons (sub_tup (a := a) (j := 1) (hkey _ p14 _ ⟨rfl, ha, ?_⟩) (by decide) (by decide) rfl rfl)
  refine Calls.spliced_nil ⟨by show 2 ≤ sizeLine; decide, ?_⟩
  exact h _ _
end
section
variable {prog : Program} {w : World} {A : Around} {s : Shared}
/-- a call of it -/
theorem key_call {qual : Str} {params : Arguments} {body : Expr} {scope : Scope} {clos : List (Str × Addr)} {pm ctv : Value} {c' f a : Addr} {key : Str} {d : PyData} (hdep : A.depth < recursionLimit) (hno : s.heap.NoLimit)
    (hf : s.heap.get? f = some (PySem.W.kla_obj "<lambda>" qual params body scope clos pm c' ctv)) (hcode : s.heap.CodeRec (.ref c') qual) (hk : scope.kind = .function) (hco : scope.isCoroutine = false) (hgen : scope.isGenerator = false)
    (hcell : ∀ y ∈ scope.names, y.2 ≠ .cell) (hloc : scope.names.lookup key = some .local) (hbind : bindArgs (PySem.W.kla_fn "<lambda>" qual params body scope clos pm (.ref c') ctv) ⟨[.ref a], []⟩ = pure [(key, .ref a)])
    (hbody : ∀ (h₁ : Heap) (tk : Nat), (∀ b o, s.heap.get? b = some o → h₁.get? b = some o) → h₁.Ns s.heap.objs.size (fun x => [(key, Value.ref a)].reverse.lookup x) →
      ∀ (E : Value → Shared → Prop) (Q : Value → Shared → Prop), (∀ v h2 tk', (∀ b o, h₁.get? b = some o → h2.get? b = some o) → Reads h2 v d [] → Q v { s with heap := h2, toks := tk' }) →
      wpAny (model prog w) (A.deeper (PySem.W.envX qual scope s.heap.objs.size f (.ref c') clos)) (eval body (PySem.W.envX qual scope s.heap.objs.size f (.ref c') clos)) Q E { s with heap := h₁, toks := tk }) :
    wpAny (model prog w) A (call (.ref f) [.ref a]) (PySem.W.KeyPure d s) (fun _ _ => False) s := by
  refine wpAny_call (PySem.W.kla_callFunE hdep hf rfl hco hgen rfl hcode ?_)
  rw [hbind]
  refine wpAny_pure (wpAny_newFunctionEnv hcell (fun y hy => ?_) (fun h₁ hns hsb => ⟨hno.fresh _ hsb, ?_⟩) hk)
  · have e : y = (key, Value.ref a) := by simpa using hy
    rw [e]
    exact hloc
  have kp : ∀ b o, s.heap.get? b = some o → h₁.get? b = some o := fun b o e => hsb.extBut b o (Nat.ne_of_lt (Heap.lt_size e)) (Heap.get?_push_of_some _ e)
  refine PySem.W.kla_codeExpr ?_
  refine hbody h₁ _ kp hns _ _ fun v h2 tk' kp2 hr => ?_
  exact ⟨h2, tk', rfl, fun b o e => kp2 b o (kp b o e), hr⟩
end
/-! ### the rule -/
/-- nothing but a table stands there -/
def New (H : Hp) (p : Addr) : Prop := ∀ o, H p = some o → ∃ ps, o = .tbl ps
abbrev EK := (Int × Int × Int) × Addr
def KeyAt (H : Hp) (k : Int × Int × Int) (a : Addr) : Prop := ∃ qa, H a = some (.tup [.ref qa, .int k.2.2]) ∧ H qa = some (.tup [.int k.1, .int k.2.1])
def kw (n : Int) (e : EK) : Int := e.1.1 * n.fdiv e.1.2.1
def kLe (n : Int) (p q : EK) : Bool := decide (kw n p < kw n q ∨ (kw n p = kw n q ∧ p.1.2.2 ≤ q.1.2.2))
def tSortKey (K : PySem.W.Frag) (T : List (Addr × Str)) (i : Nat) (te : TE) : TE := fun σ H Q => te σ H fun x H1 => ∃ (l : Addr) (ks : List EK) (n : Int), x = .ref l ∧ H1 l = some (.lst (ks.map fun e => .ref e.2)) ∧ σ[i]? = some (some (.int n)) ∧ Tabs T H1 ∧
  (∀ e ∈ ks, KeyAt H1 e.1 e.2 ∧ (0 < e.1.2.1 ∧ e.1.2.1 < 1073741824) ∧ CMul e.1.1 (n.fdiv e.1.2.1)) ∧ ks.length ≤ 1000 ∧
  ∀ D H2, ExtN H1 H2 → Tabs T H2 → New H1 D → H2 D = some (.lst ((ks.mergeSort (kLe n)).map fun e => .ref e.2)) → Q (.ref D) H2
section
variable {X : Cx}
theorem pair_at {P : Program} {w : World} {H : Hp} {h : Heap} {a : Addr} {xs : List V} (hok : HOk P w H h) (e : H a = some (.tup xs)) : ∃ us, Vals xs us ∧ IsTup h a us.toArray := by
  obtain ⟨_, us, r, o, ho, hc, n, hd⟩ := (show ObjOk P w H h a (.tup xs) from hok a _ e)
  exact ⟨us, r, o, ho, hc, n, hd⟩
theorem vals_each {out : List Value} {ms : List EK} (eo : PySem.W.EachIs (fun (v : Value) (e : EK) => v = .ref e.2) out ms) : Vals (ms.map fun e => V.ref e.2) out := by
  induction eo with
  | nil => exact .nil
  | cons h _ ih => exact .cons h ih
theorem codeAt {P : Program} {w : World} {H : Hp} {h : Heap} {c : Addr} {q : Str} (hok : HOk P w H h) (e : H c = some (CodeO c q)) : h.CodeRec (.ref c) q := by
  obtain ⟨⟨oc, vs, t, h1, h2, h3⟩, _, _⟩ := hok c _ e
  exact ⟨c, oc, vs, t, rfl, h1, h2, h3⟩
theorem pe_sortKey {T : List (Addr × Str)} {i j : Nat} {te : TE} {c P : Addr} {params : Arguments} {scope : Scope} {e : Expr} {key every : Str} {i1 i2 i3 i4 i5 i6 : Nat} {p1 p2 p3 p4 p5 p6 p7 p8 p9 p10 p11 p12 p13 p14 p15 p16 p17 lpos kpos p pos : Pos}
    (hr : Room j X.A) (hg : Gl X "sorted") (hm : X.mg "sorted" = none) (ha : PE X e te) (TB : TabB X.base X.mg c P) (hcode : X.env.code = .ref c) (hmT : (P, X.env.qual ++ "<lambda>") ∈ T) (hu : ∀ p ∈ T, p.1 = P → p.2 = X.env.qual ++ "<lambda>")
    (hdef : defaultsOf params X.env = ([], [])) (hN : X.N[i]? = some every) (hcl : X.env.scope.names.lookup every = some .cell) (hk : scope.kind = .function) (hco : scope.isCoroutine = false) (hgen : scope.isGenerator = false)
    (hcell : ∀ y ∈ scope.names, y.2 ≠ .cell) (hfr : ∀ y ∈ scope.names, y.2 = .free → y.1 = every) (hloc : scope.names.lookup key = some .local) (hev : scope.names.lookup every = some .free)
    (hbind : ∀ (q : Str) (body : Expr) (cl : List (Str × Addr)) (pm cv ctv : Value) (a : Addr), bindArgs (PySem.W.kla_fn "<lambda>" q params body scope cl pm cv ctv) ⟨[.ref a], []⟩ = pure [(key, .ref a)])
    (d1 : (key == ("__debug__" : Str)) = false := by decide) (d2 : (every == ("__debug__" : Str)) = false := by decide) (d3 : (every == ("__classdict__" : Str)) = false := by decide)
    (he : backTo pos (starEach [e] X.env) = (false, eval e X.env) :: backTo pos (starEach [] X.env) := by rfl) (hpl : (backTo pos (starEach [e] X.env)).any (·.1) = false := by rfl) :
    PE X (.Call (.Name "sorted" p) [e] [⟨some "key", .Lambda params (.Tuple [.BinOp (.Subscript (.Subscript (.Name key p1) (.Constant (.int 0) i1 p2) p3) (.Constant (.int 0) i2 p4) p5) .Mult (.BinOp (.Name every p6) .FloorDiv (.Subscript (.Subscript (.Name key p7) (.Constant (.int 0) i3 p8) p9) (.Constant (.int 1) i4 p10) p11) p12) p13,
      .Subscript (.Name key p14) (.Constant (.int 1) i5 p15) p16] i6 p17) scope lpos, kpos⟩] pos) (tSortKey X.K T i te) := by
  refine ⟨fun pins s σ H Q I h => ?_⟩
  refine wpAny_Call_Name_kw (ld_blt (u := .builtin "sorted") I hg hm (by decide +kernel) ?_)
  refine callWith_kw ?_ he hpl (by rfl) (by rfl)
  rw [he]
  refine Calls.spliced_cons (thn (ha.run pins s σ H _ I h) fun u s1 ⟨x, H1, I1, r1, l, ks, n, ex, hl, hσ, hT, hks, hlen, q⟩ => ?_)
  subst ex
  obtain rfl : u = Value.ref l := r1
  refine Calls.spliced_nil ?_
  have hfree : ∀ y ∈ scope.names, y.2 = .free → ∃ c, X.env.cells.lookup y.1 = some c := fun y hy e => by
    rw [hfr y hy e]
    exact I.ok.has _ (.inl hcl)
  refine kws_cons (lam_make2 I1 TB hcode hmT hu hT hdef hfree fun f c' pm ctv H2 s2 I2 eN T2 hf hfn hfrs hco2 => kws_nil ?_)
  show wpAny (model X.prog X.w) X.A (call (.builtin "sorted") [.ref l] [(Str.ofString "key", .ref f)]) _ _ s2
  have hl2 : H2 l = some (.lst (ks.map fun e => .ref e.2)) := eN _ _ hl (fun _ z => nomatch z)
  obtain ⟨its, rv, pl, hz⟩ := I2.list (SqL.of hl2)
  -- the cell
  obtain ⟨m, hn, hlk⟩ := I2.loc
  obtain ⟨u, ru, lu⟩ := hlk i every (.int n) hN hσ (.inr (.inl hcl))
  obtain ⟨tn, rfl⟩ := (show ∃ t, u = Value.int n t from ru)
  obtain ⟨cc, hcc, hcellv⟩ : ∃ cc, X.env.cells.lookup every = some cc ∧ s2.heap.IsCell cc (some (.int n tn)) := by
    rcases lu with ⟨k', _⟩ | ⟨_, c3, e', z⟩
    · have k' : X.env.scope.names.lookup every = some .local := k'
      rw [hcl] at k'
      cases k'
    · exact ⟨c3, e', z⟩
  have hclo : (cloFrom X.env.cells scope.names []).lookup every = some cc := by
    have hy : (every, NameKind.free) ∈ scope.names := PySem.mem_of_lookup hev
    obtain ⟨c2, h2⟩ := mem_lookup (cloFrom_has (cells := X.env.cells) (acc := []) hy)
    rcases cloFrom_mem (PySem.mem_of_lookup h2) with hm | ⟨_, h3⟩
    · cases hm
    · rw [h2, h3, hcc] <;> rfl
  have eks : PySem.W.EachIs (fun (v : Value) (e : EK) => v = .ref e.2) its ks := by
    have rv' := rv
    clear hlen hks q hl hl2 rv pl hz
    induction ks generalizing its with
    | nil =>
      cases rv'
      exact .nil
    | cons e ks ih =>
      cases rv' with
      | cons r1 r2 => exact .cons r1 (ih _ r2)
  have facts : ∀ e ∈ ks, ∃ (qa : Addr) (t1 t2 t3 : Tok), IsTup s2.heap e.2 #[.ref qa, .int e.1.2.2 t1] ∧ IsTup s2.heap qa #[.int e.1.1 t2, .int e.1.2.1 t3] := fun e he => by
    obtain ⟨⟨qa, h1, h2⟩, _, _⟩ := hks e he
    obtain ⟨us, v1, p1⟩ := pair_at I2.hok (eN _ _ h1 (fun _ z => nomatch z))
    obtain ⟨us2, v2, p2⟩ := pair_at I2.hok (eN _ _ h2 (fun _ z => nomatch z))
    obtain ⟨w1, w2, rfl, r1, r2⟩ := vals2 v1
    obtain ⟨w3, w4, rfl, r3, r4⟩ := vals2 v2
    obtain rfl : w1 = Value.ref qa := r1
    obtain ⟨t1, rfl⟩ := (show ∃ t, w2 = Value.int e.1.2.2 t from r2)
    obtain ⟨t2, rfl⟩ := (show ∃ t, w3 = Value.int e.1.1 t from r3)
    obtain ⟨t3, rfl⟩ := (show ∃ t, w4 = Value.int e.1.2.1 t from r4)
    exact ⟨qa, t1, t2, t3, p1, p2⟩
  refine PySem.W.sorted_key_data (b := false) (fun e : EK => .tuple [.int (kw n e), .int e.1.2.2]) pl.isList eks (PySem.W.AllAlike.of fun _ _ => by simp [PySem.W.alike, PySem.W.alikeAll]) (PySem.W.Sortable.tuples fun _ => ⟨_, _, rfl⟩) (Nat.le_trans hlen (by decide)) (fun e _ => ?_) (ksk_s1 _ _) (fun _ => ksk_l1 _ _) (fun _ => ksk_t1 _ _)
    (fun v e rve he' h tk kp => ?_) fun out cx h' tk kp fresh hD len eo => ?_
  · have hd : (PyData.tuple [.int (kw n e), .int e.1.2.2]).depth = 1 := by simp [PyData.depth, PyData.depthAll]
    have := hr.units
    omega
  · have rve : v = .ref e.2 := rve
    subst rve
    obtain ⟨qa, t1, t2, t3, p1, p2⟩ := facts e he'
    obtain ⟨_, hb, hmul⟩ := hks e he'
    refine key_call (s := { s2 with heap := h, toks := tk }) (key := key) (hr.depth) (I2.nolimit.keeps kp) (kp _ _ hf) ((codeAt I2.hok hco2).keeps kp) hk hco hgen hcell hloc (hbind _ _ _ _ _ _ _) fun h₁ tk1 kp1 hns E Q hq => ?_
    refine key_body (tn := tn) (tt := t2) (tu := t3) (tk := t1) (a := e.2) (q := qa) (cc := cc) (m := _) (n := n) (t := e.1.1) (u := e.1.2.1) (k := e.1.2.2) hk hloc hev hns ?_ hclo ?_ ((p1.keeps kp).keeps kp1) ((p2.keeps kp).keeps kp1) hb hmul (fun t1 tk' => hq _ _ _ (fun b o e => Heap.get?_push_of_some _ e) ?_) d1 d2 d3
    · simp
    · obtain ⟨o, ho, hd⟩ := hcellv
      exact ⟨o, kp1 _ _ (kp _ _ ho), hd⟩
    · exact .tuple (Heap.get?_push_size _ rfl) rfl rfl (.cons (.int _ _) (.cons (.int _ _) .nil))
  · rw [PySem.W.dataLe_ii (β := EK) (fun p => kw n p) (fun p => p.1.2.2)] at eo
    have eo : PySem.W.EachIs (fun (v : Value) (e : EK) => v = .ref e.2) out (ks.mergeSort (kLe n)) := eo
    have vo := vals_each eo
    have nD : H2 (s2.heap.objs.size + 1) = none := I2.hok.fresh (Nat.le_succ _)
    have up : ∀ b o, H2 b = some o → L2.upd H2 (s2.heap.objs.size + 1) (.lst ((ks.mergeSort (kLe n)).map fun e => V.ref e.2)) b = some o := fun b o z => by
      rw [upd_ne (ne_of_none z nD)]
      exact z
    refine ⟨.ref _, L2.upd H2 (s2.heap.objs.size + 1) (.lst ((ks.mergeSort (kLe n)).map fun e => V.ref e.2)), I2.laid (t' := tk) kp (Nat.le_succ _) ⟨?_, out, cx, vo, hD⟩, rfl, q _ _ (eN.trans (ExtN.of up)) (T2.ext up) ?_ upd_same⟩
    · rw [List.length_map, List.length_mergeSort]
      exact Nat.le_trans hlen (by decide)
    · intro o z
      by_cases q : ∃ ps, o = .tbl ps
      · exact q
      · have := eN _ _ z fun ps e => q ⟨ps, e⟩
        rw [nD] at this
        cases this
end
end Nm

/-! for i, x in enumerate(t), t a tuple. -/
namespace Nm
open PySem PySem.Spec PyProof.Rows L2
theorem meets_enumT {v : Value} {o : Obj} {H : Heap → Prop} (B : Begins v o H) :
    Meets (Builtin.«enumerate.__new__» ⟨[.type "enumerate", v], []⟩) (fun _ R s => H s.heap ∧
      R (.ok (.ret (.ref (s.heap.push o).objs.size))) { s with heap := (s.heap.push o).push { cls := .type "enumerate", data := .fields #[.none, .bool false, .ref s.heap.objs.size, rawInt 0, .none, .none] } }) :=
  .of_wp fun prog w A R s h => by
    obtain ⟨hp, g, d, tk, os⟩ := s; obtain ⟨h1, h⟩ := h
    have hsub := sub_enumerate
    have q1 : ∀ {A' : Around} {E : Value → Shared → Prop} {Q : Value → Shared → Prop}, Q (.ref hp.objs.size) ⟨hp.push o, g, d, tk, os⟩ → wpAny (model prog w) A' (pyIter v) Q E ⟨hp, g, d, tk, os⟩ :=
      fun q => B.iter prog w _ _ ⟨hp, g, d, tk, os⟩ _ h1 q
    wp_walk using q1
    refine wpAny_stack_any fun st => wpAny_pure ?_
    split
    · rename_i c _ _ _ _ _
      cases (c == Value.type "enumerate")
      · wp_walk using q1
        exact ⟨_, rfl, h⟩
      · wp_walk using q1
        exact ⟨_, rfl, h⟩
    · wp_walk using q1
      exact ⟨_, rfl, h⟩
section
variable {prog : Program} {w : World} {A : Around} {E : Value → Shared → Prop} {s : Shared}
theorem call_enumB {v : Value} {o : Obj} {H : Heap → Prop} {Q : Value → Shared → Prop} (B : Begins v o H) (h1 : H s.heap)
    (h : ∀ h', IsEnum h' (s.heap.objs.size + 1) s.heap.objs.size 0 .none → h'.get? s.heap.objs.size = some o → h'.objs.size = s.heap.objs.size + 2 →
      (∀ b o, s.heap.get? b = some o → h'.get? b = some o) → Q (.ref (s.heap.objs.size + 1)) { s with heap := h' }) :
    wpAny (model prog w) A (call (.type "enumerate") [v]) Q E s := by
  refine callType_new F.called_enumerate (by decide) (F.typeCall_enumerate_1 _) (F.newCall_enumerate_1 _) (fun obj => F.args_object_init_2 obj _) F.entry_enumerate_new (meets_enumT B) ⟨h1, ?_⟩
  have hz : (s.heap.push o).objs.size = s.heap.objs.size + 1 := Heap.size_push ..
  show _ ∧ _
  rw [hz]
  have he : IsEnum ((s.heap.push o).push { cls := .type "enumerate", data := .fields #[.none, .bool false, .ref s.heap.objs.size, rawInt 0, .none, .none] }) (s.heap.objs.size + 1) s.heap.objs.size 0 .none := by
    have := Heap.get?_push_size (s.heap.push o) (o := { cls := .type "enumerate", data := .fields #[.none, .bool false, .ref s.heap.objs.size, rawInt 0, .none, .none] }) rfl
    rw [hz] at this; exact this
  refine ⟨⟨_, he, rfl⟩, h _ he (Heap.get?_push_of_some _ (Heap.get?_push_size _ B.free)) (by rw [Heap.size_push, hz]) fun b o x => Heap.get?_push_of_some _ (Heap.get?_push_of_some _ x)⟩
end
/-- the tuple at a, each item in a new pair -/
def IteT (K : PySem.W.Frag) (a : Addr) (xs : List V) : It :=
  ⟨fun i H => SqT K H a xs ∧ i < xs.length, fun i H v H' => ∃ T x, v = .ref T ∧ H T = none ∧ H' = L2.upd H T (.tup [.int (i : Nat), x]) ∧ xs[i]? = some x, fun i H => SqT K H a xs ∧ i = xs.length⟩
theorem turn_enumT {P : Program} {w : World} {K : PySem.W.Frag} {elts : List Expr} {kk : Nat} {tpos : Pos} (a e it : Addr) (xs : List V) :
    Turn P w K (.Tuple elts kk tpos) (IteT K a xs) [e, it] e (fun i h => (∃ old, IsEnum h e it ((i : Nat) : Int) old) ∧ h.IsTupleIter it a i ∧ e ≠ it) where
  mem := by simp
  obj := fun i h st b hb => by
    obtain ⟨⟨old, he⟩, ⟨o, ho, hc, hd⟩, _⟩ := st
    have e' : b = e ∨ b = it := by simpa using hb
    rcases e' with z | z
    · rw [z]; exact ⟨_, he, fun v q => nomatch q⟩
    · rw [z]; exact ⟨o, ho, fun v q => by rw [hd] at q; cases q⟩
  keep := fun i h h' st k => let ⟨⟨old, he⟩, hi, hne⟩ := st; ⟨⟨old, k e (by simp) _ he⟩, hi.at fun o q => k it (by simp) o q, hne⟩
  item := by
    intro X hP hw hK hc i pins s σ H E I hf st hg
    subst hP hw hK
    obtain ⟨⟨old, he⟩, hit, hne⟩ := st
    obtain ⟨hq, hlt⟩ := hg
    obtain ⟨its, rv, p, hz⟩ := I.tuple hq
    have hl2 := rv.length
    obtain ⟨x, hx⟩ : ∃ x, xs[i]? = some x := ⟨xs[i], List.getElem?_eq_getElem hlt⟩
    obtain ⟨u, hu, ru⟩ := rv.get hx
    have hel : e < s.heap.objs.size := Heap.lt_size he
    have hil : it < s.heap.objs.size := by obtain ⟨_, q, _⟩ := hit; exact Heap.lt_size q
    have nai : a ≠ it := fun z => by
      obtain ⟨o1, q1, c1, _⟩ := p
      obtain ⟨o2, q2, c2, _⟩ := hit
      rw [z, q2] at q1
      cases q1
      rw [c2] at c1
      injection c1 with c1
      exact absurd c1 (by decide)
    have nea : e ≠ a := fun z => by
      obtain ⟨o1, q1, c1, _⟩ := p
      rw [← z, he] at q1
      cases q1
      injection c1 with c1
      exact absurd c1 (by decide)
    have D := Draws.tuple (prog := X.prog) (w := X.w) (A := X.A.in1) (I.ok.hd hc) it a nai its.toArray
    refine wpAny_pyNext_enum_itemD D he ⟨hit, p⟩ (by rw [List.size_toArray, ← hl2]; exact hlt) hne (by simp [hne, nea]) fun u2 h' tk hP ho hst hT hsz hk => ?_
    have eu : u2 = u := by
      have : its[i]? = some u2 := by simpa using hP
      rw [hu] at this
      exact (Option.some.inj this).symm
    subst eu
    refine ⟨_, rfl, wpAny_letOwnedTupleGo_enum (s := { s with heap := h', toks := tk + 1 }) ho fun h'' he' sb => ?_⟩
    have hT2 : h''.get? s.heap.objs.size = some { cls := .type "tuple", data := .seq #[.int i tk, u2] } := (sb.2 _ (Nat.ne_of_gt hel)).trans hT
    have new : ObjOk X.prog X.w (L2.upd H s.heap.objs.size (.tup [.int (i : Nat), x])) h'' s.heap.objs.size (.tup [.int (i : Nat), x]) :=
      ⟨by show 2 ≤ sizeLine; decide, [.int i tk, u2], .cons ⟨_, rfl⟩ (.cons ru .nil), ⟨_, hT2, rfl, _, rfl⟩⟩
    have I1 : Inv X pins σ (L2.upd H s.heap.objs.size (.tup [.int (i : Nat), x])) { s with heap := h'', toks := tk + 1 } :=
      I.turnedNew (ch := [e, it]) (fun b ob hb q => (sb.2 b (fun z => hb (by simp [z]))).trans (hk b ob (fun z => hb (by simp [z])) (fun z => hb (by simp [z])) q)) hf (Nat.le_refl _) new
    refine ⟨.ref s.heap.objs.size, _, I1, rfl, ⟨_, x, rfl, I.hok.fresh (Nat.le_refl _), rfl, hx⟩, ⟨⟨u2, ?_⟩, hst.1.at fun o q => (sb.2 it (Ne.symm hne)).trans q, hne⟩, fun b hb => ?_⟩
    · have e1 : ((i + 1 : Nat) : Int) = (i : Int) + 1 := by omega
      rw [e1]; exact he'
    · have hb' : b < s.heap.objs.size := by
        have e' : b = e ∨ b = it := by simpa using hb
        rcases e' with z | z
        · rw [z]; exact hel
        · rw [z]; exact hil
      rw [upd_ne (Nat.ne_of_lt hb')]
      exact (hf b hb).1
  done := by
    intro X hP hw hK hc i pins s σ H E I hf st hg
    subst hP hw hK
    obtain ⟨⟨old, he⟩, hit, hne⟩ := st
    obtain ⟨hq, hx⟩ := hg
    obtain ⟨its, rv, p, hz⟩ := I.tuple hq
    obtain ⟨f0, f1, f2, f3, f4, f5⟩ := hf it (by simp)
    have hl2 := rv.length
    have nai : a ≠ it := fun z => by
      obtain ⟨o1, q1, c1, _⟩ := p
      obtain ⟨o2, q2, c2, _⟩ := hit
      rw [z, q2] at q1
      cases q1
      rw [c2] at c1
      injection c1 with c1
      exact absurd c1 (by decide)
    have e : i = its.toArray.size := by rw [List.size_toArray, ← hl2]; exact hx
    have D := Draws.tuple (prog := X.prog) (w := X.w) (A := X.A.in1) (I.ok.hd hc) it a nai its.toArray
    exact wpAny_pyNext_enum_endD D he ⟨e ▸ hit, p⟩ fun h' eb => ⟨rfl, I.turned (t' := s.toks) (fun b o hb q => eb b o hb q) f0 f1 f3 f4 f5⟩
  self := fun A i s Q E st h => let ⟨⟨_, he⟩, _⟩ := st; wpAny_pyIter_enum he h
def iEnumT (K : PySem.W.Frag) (ta : TA) : TI := fun σ H R => ta σ H fun vs H1 => ∃ a xs, vs = [.ref a] ∧ SqT K H1 a xs ∧ R (IteT K a xs) H1
theorem pi_enumT {X : Cx} {e : Expr} {ta : TA} {p pos tpos : Pos} {elts : List Expr} {kk : Nat} (hg : Gl X "enumerate") (hm : X.mg "enumerate" = none) (ha : PA X [e] ta) (hs : starEach [e] X.env = [(false, eval e X.env)] := by rfl) :
    PI X (.Tuple elts kk tpos) (.Call (.Name "enumerate" p) [e] [] pos) (iEnumT X.K ta) := by
  refine ⟨fun pins s σ H R I h => ?_⟩
  refine Call_ (ld_blt I hg hm boot_enumerate (PyProof.Rows.callWith_type1 (thn (ha.run pos pins s σ H _ I h) fun us s1 ⟨vs, H1, I1, r1, q1⟩ => ?_) hs rfl))
  obtain ⟨a, xs, ex, hq, q⟩ := q1
  subst ex
  cases r1 with
  | cons r rr =>
    cases rr
    cases r
    obtain ⟨its, rv, p', hz⟩ := I1.tuple hq
    refine call_enumB (begins_tuple a its.toArray) p' fun h' he hit hsz hk => wpAny_pyIter_enum he ?_
    have I2 : Inv X pins σ H1 { s1 with heap := h' } := I1.kept (t' := s1.toks) hk
    refine ⟨s1.heap.objs.size + 1, [s1.heap.objs.size + 1, s1.heap.objs.size], _, _, H1, rfl, I2, turn_enumT a (s1.heap.objs.size + 1) s1.heap.objs.size xs, ⟨⟨.none, he⟩, ⟨_, hit, rfl, rfl⟩, Nat.succ_ne_self _⟩, fun b hb => ?_, q⟩
    have e' : b = s1.heap.objs.size + 1 ∨ b = s1.heap.objs.size := by simpa using hb
    have hle : s1.heap.objs.size ≤ b := by
      rcases e' with z | z
      · rw [z]; exact Nat.le_add_right _ _
      · rw [z]; exact Nat.le_refl _
    exact I1.fpOk hle (I1.hok.fresh hle)
/-- the loop over it -/
theorem for_enumT {K : PySem.W.Frag} {a : Addr} {xs : List V} {g : TG} {tb : TS} {D : Ends} {σ : L2.St} {H : Hp} (Pv : Nat → L2.St → Hp → Prop) (h0 : Pv 0 σ H) (hl : ∀ i σ H, i ≤ xs.length → Pv i σ H → SqT K H a xs)
    (hs : ∀ i x T σ H, xs[i]? = some x → Pv i σ H → H T = none → g (.ref T) σ (L2.upd H T (.tup [.int (i : Nat), x])) fun σ2 H2 => tb { D with nx := Pv (i + 1), ct := Pv (i + 1), bk := D.nx } σ2 H2) (hd : ∀ σ H, Pv xs.length σ H → D.nx σ H) :
    ∃ W : Nat → Nat → L2.St → Hp → Prop, (∃ m, W 0 m σ H) ∧ ∀ i m σ H, W i m σ H →
      ((IteT K a xs).stop i H ∧ D.nx σ H) ∨ ((IteT K a xs).go i H ∧ ∃ N : L2.St → Hp → Prop, (∀ σ' H', N σ' H' → ∃ m', m' < m ∧ W (i + 1) m' σ' H') ∧ ∀ x H', (IteT K a xs).yld i H x H' → g x σ H' fun σ2 H2 => tb { D with nx := N, ct := N, bk := D.nx } σ2 H2) := by
  refine ⟨fun i m σ H => m = xs.length - i ∧ i ≤ xs.length ∧ Pv i σ H, ⟨xs.length, by simp, Nat.zero_le _, h0⟩, ?_⟩
  rintro i m σ H ⟨rfl, hi, p⟩
  have q := hl i σ H hi p
  by_cases hlt : i < xs.length
  · refine .inr ⟨⟨q, hlt⟩, Pv (i + 1), fun σ' H' p' => ⟨xs.length - (i + 1), by omega, rfl, hlt, p'⟩, fun x H' y => ?_⟩
    obtain ⟨T, v, rfl, hT, rfl, hx⟩ := y
    exact hs i v T σ H hx p hT
  · have e : i = xs.length := by omega
    subst e
    exact .inl ⟨⟨q, rfl⟩, hd σ H p⟩
end Nm

/-! raise C(v), C an own class whose __init__ says super().__init__(text); self.f = v. -/
namespace Nm
open PySem PySem.Spec PyProof.Rows L2
def tMkF (C : Addr) (f : Str) (ta : TA) : L2.St → Hp → XK → Prop := fun σ H Q => ta σ H fun vs H1 => ∃ v, vs = [v] ∧ ∀ d, H1 d = none → Q (.ref C) (some d) (L2.upd H1 d (.xd [(f, v)]))
theorem pmk_newF {X : Cx} {st : Stmt} {qual f txt file x : Str} {C fI cc cda : Addr} {a : Expr} {ta : TA} {p pos : Pos} (T : XI X.K st qual C fI cc cda f txt file) (pf : PF X.prog file) (hms : X.mg "super" = none) {k : Nat} (hr : Room k X.A) (gC : X.mg x = some (.ref C)) (ha : PA X [a] ta)
    (exC : PySem.W.subIn X.K (.ref C) (.type "BaseException") = some true) (tyC : PySem.W.typeIn X.K (.ref C) = some (.type "type")) (hg : Gl X x := by rfl)
    (hdb : (x == ("__debug__" : Str)) = false := by decide) (he : starEach (a :: []) X.env = (false, eval a X.env) :: starEach [] X.env := by rfl) (hpl : (backTo pos (starEach [] X.env)).any (·.1) = false := by rfl) :
    PMk X (.Call (.Name x p) [a] [] pos) (tMkF C f ta) := by
  intro pins s σ H Q I h
  obtain ⟨nm, q, N, bs, bm, sn, sub, ab, col, dd, k0, k1, k2, k3, k5, hC, hbm⟩ := T.cls
  refine wpAny_Call_Name_kw (ld_glob I hg gC ?_ hdb)
  refine PySem.W.callWith_K (h₀ := X.base) I.ok.mod.kin T.xt.kp (thn (ha.run pos pins s σ H _ I h) fun us s1 hh => ?_) he hpl
  obtain ⟨vs, H1, I1, r1, v, ev, q1⟩ := hh
  subst ev
  refine ⟨I1.kIn, ?_⟩
  cases r1 with
  | cons rv rn =>
    rename_i v' us'
    cases rn
    show wpAny _ _ (call (.ref C) [v']) _ _ _
    have hlim := I1.nolimit
    have hK := I1.kIn
    have hgl : s1.heap.Ns mainGlobals X.mg := I1.mod.glob.keeps I1.bk
    have hbl : ∃ mb, s1.heap.Ns builtinsNs mb ∧ ∀ y : Str, y ≠ "__name__" → mb y = bootBuiltins y := by
      obtain ⟨mb, h1, h2⟩ := I1.mod.blt
      exact ⟨mb, h1.keeps I1.bk, h2⟩
    obtain ⟨hp, g, dr, tk, os⟩ := s1
    have kk : ∀ b o, hp.get? b = some o → ((hp.push (PySem.W.kdv_tup [v'])).push (HandSPX.excO C hp.objs.size)).get? b = some o := fun b o e => Heap.get?_push_of_some _ (Heap.get?_push_of_some _ e)
    have hget : ((hp.push (PySem.W.kdv_tup [v'])).push (HandSPX.excO C hp.objs.size)).get? (hp.objs.size + 1) = some (HandSPX.excO C hp.objs.size) := by heap_get
    have hnew : hp.get? (hp.objs.size + 1) = none := Heap.get?_none_of_le (Nat.le_succ _)
    refine wpAny_call (HandSPX.call_own F.excBase_ValueError (fun Y => HandSPX.refsVE_contains Y bm hbm) (hK _ _ hC) (PySem.W.looks_findIn hK T.iC) (fun self => PySem.W.bind_fn hK self T.tI) (by show 1 ≤ sizeLine; rw [sizeLine_eq]; decide) ?_)
    refine xinit (h₀ := hp) (mg := X.mg) T pf hK hgl hms hbl kk (hlim.keeps kk) hget hnew (by rw [Heap.size_push, Heap.size_push]; omega) ?_ (fun h' tk' t1 dx k' dn dne hx hns => ?_)
    · show X.A.depth + 1 < recursionLimit
      have := hr.dp
      omega
    refine ⟨rfl, ?_⟩
    show MkP X pins σ Q (.ref (hp.objs.size + 1)) ⟨h', g, dr, tk', os⟩
    obtain ⟨G, g1, g2⟩ := restrict h' fun b => decide (b ≠ hp.objs.size + 1)
    have gk : ∀ b, b ≠ hp.objs.size + 1 → G.get? b = h'.get? b := fun b hb => g1 b (decide_eq_true hb)
    have ge : G.get? (hp.objs.size + 1) = none := g2 _ (by simp)
    have old : ∀ b o, hp.get? b = some o → G.get? b = some o := fun b o e => (gk b (Nat.ne_of_lt (Nat.lt_succ_of_lt (Heap.lt_size e)))).trans (k' b o e)
    have J : Inv X pins σ (L2.upd H1 dx (.xd [(f, v)])) ⟨G, g, dr, tk', os⟩ := I1.laid (t' := tk') old dn ⟨_, hns.at (fun o q => (gk dx dne).trans q), fun y => relO_one rv y⟩
    refine ⟨hp.objs.size + 1, _, _, ⟨G, g, dr, tk', os⟩, _, .ref C, some dx, rfl, J, fun b o q => ?_, ge, hx, ⟨rfl, rfl⟩, rfl, rfl, ?_, rfl, I1.bare, raises_own exC tyC, q1 dx (I1.hok.fresh dn)⟩
    · by_cases hb : b = hp.objs.size + 1
      · have q' : G.get? b = some o := q
        rw [hb, ge] at q'; cases q'
      · exact (gk b hb).symm.trans q
    · rw [upd_ne (Ne.symm dne)]
      exact I1.hok.fresh (Nat.le_succ _)
/-- isinstance(e, c), e the exception with a dict that the suite holds -/
def rIsD (K : PySem.W.Frag) (a : Addr) (cls : Value) (d : Option Addr) : List V → Hp → VK → Prop := fun xs H Q => ∃ (C dd : Addr) (c : V) (u : Value) (b : Bool) (fs : List (Str × V)), xs = [.ref a, c] ∧ cls = .ref C ∧ d = some dd ∧ XT K C ∧ ClsV c u ∧ H dd = some (.xd fs) ∧ PySem.W.kitOne K (.ref C) u = some b ∧ Q (.bl b) H
theorem call_isD {X : Cx} {a : Addr} {oe : Obj} {cls : Value} {d : Option Addr} {pn : List (Addr × Obj)} (hz : Zc cls d oe) (hf : ∃ vs, oe.data = .fields vs) : CallR (X.suite a ((a, oe) :: pn)) (.builtin "isinstance") (rIsD X.K a cls d) := by
  intro pins s σ H xs us Q I r h
  obtain ⟨C, dd, c, u, b, fs, rfl, rfl, rfl, T, k, ea, e, q⟩ := h
  obtain ⟨u1, u2, rfl, r1, r2⟩ := vals2 r
  have e2 := k.eq r2
  subst e2
  obtain rfl : u1 = Value.ref a := r1
  obtain ⟨ha, _⟩ := I.pin (a, oe) (List.mem_append_left _ List.mem_cons_self)
  obtain ⟨vs, hd⟩ := hf
  have hx : ObjOk X.prog X.w H s.heap dd (.xd fs) := I.hok dd _ ea
  obtain ⟨mA, hns, hr⟩ := hx
  obtain ⟨od, ho, hl⟩ := lookIn_ns hns
  have J : PySem.W.InstAt s.heap a oe C (some od) := ⟨ha, hz.1, by unfold PySem.W.notCls; rw [hd] <;> rfl, by rw [hz.2]; exact ho⟩
  exact PySem.W.kia_one (PySem.W.kitx_exc T.cl T.ga T.gt T.sub T.ca T.gs T.tk T.mr) I.kIn J e (fun z => nomatch z) fun tk => ⟨.bl b, H, I.kept (t' := tk) fun _ _ z => z, rfl, q⟩
end Nm

/-! C(e, ..) whose __init__ may raise: what is raised is wished for at the caller's slots. -/
namespace Nm
open PySem PySem.Spec PyProof.Rows L2
section
variable {X : Cx} {CX : CXT} {k : Nat} {f C : Addr} {fd : FuncData} {ps : List Str} {sp : Sp} {E : L2.St → XK} {x : Str} {p pos : Pos} {e : Expr} {es : List Expr} {t : TA}
theorem run_makeS {pins : List (Addr × Obj)} {σ : L2.St} {H : Hp} {s : Shared} {Q : VK} {us : List Value} {vs : List V} (M : Mk X.K C f) (F : FnOk X.prog X.w X.K X.mg X.base CX k f fd ps sp) (hr : Room (k + 1) X.A) (hb : Binds X.K fd ps [])
    (hx : PassesAt CX X σ (E σ)) (I : Inv X pins σ H s) (r : Vals vs us)
    (h : ∀ x dx, H x = none → H dx = none → dx ≠ x → sp (.ref x :: vs) (L2.upd (L2.upd H dx (.own x)) x (.ins C dx [])) (fun v H2 => v = .non ∧ Q (.ref x) H2) (E σ)) :
    wpAny (model X.prog X.w) X.A (call (.ref C) us) (EP X pins σ Q) X.xe s := by
  have hq := h (s.heap.objs.size + 1) s.heap.objs.size (I.hok.fresh (Nat.le_succ _)) (I.hok.fresh (Nat.le_refl _)) (Nat.ne_of_lt (Nat.lt_succ_self _))
  have I2 := Inv.made (C := C) I
  have r2 : Vals (V.ref (s.heap.objs.size + 1) :: vs) (Value.ref (s.heap.objs.size + 1) :: us) := .cons rfl r
  have hl : (Value.ref (s.heap.objs.size + 1) :: us).length = ps.length := by
    have e := r2.length
    rw [F.len _ _ _ _ hq] at e
    exact e.symm
  have b := hb _ (Value.ref (s.heap.objs.size + 1) :: us) I2.kIn (by rw [List.append_nil]; exact hl)
  rw [List.append_nil] at b
  refine wpAny_call (make_map (f := f) I.kIn M.makes M.init (beq_iff_eq.mp M.fn) (codeAny_mono (F.run _ X.stack _ _ ⟨Value.ref (s.heap.objs.size + 1) :: us, []⟩ (Value.ref (s.heap.objs.size + 1) :: us) _ _ (E σ) (hr.make C us [])
    (I2.env0.make C us []) b r2 hq) fun r s' hq' => ?_))
  cases r with
  | error e => exact hx pins _ _ e s' I2 hq'
  | ok fl =>
    cases fl with
    | ret u =>
      obtain ⟨v, H', I3, rv, ev, q3⟩ := I2.after hq'
      subst ev
      exact ⟨rv, ⟨V.ref (s.heap.objs.size + 1), H', I3, rfl, q3⟩⟩
    | next => exact False.elim hq'
    | brk => exact False.elim hq'
    | cont => exact False.elim hq'
def tMakeS (C : Addr) (sp : Sp) (E : L2.St → XK) (t : TA) : TE := fun σ H Q => t σ H fun vs H1 => ∀ x dx, H1 x = none → H1 dx = none → dx ≠ x →
  sp (.ref x :: vs) (L2.upd (L2.upd H1 dx (.own x)) x (.ins C dx [])) (fun v H2 => v = .non ∧ Q (.ref x) H2) (E σ)
theorem pe_makeS (M : Mk X.K C f) (F : FnOk X.prog X.w X.K X.mg X.base CX k f fd ps sp) (hr : Room (k + 1) X.A) (hg : Gl X x) (hm : X.mg x = some (.ref C)) (hb : Binds X.K fd ps []) (hx : ∀ σ, PassesAt CX X σ (E σ))
    (ha : PA X (e :: es) t) (hdb : (x == ("__debug__" : Str)) = false := by decide) (he : starEach (e :: es) X.env = (false, eval e X.env) :: starEach es X.env := by rfl) (hpl : (backTo pos (starEach es X.env)).any (·.1) = false := by rfl) :
    PE X (.Call (.Name x p) (e :: es) [] pos) (tMakeS C sp E t) := by
  refine ⟨fun pins s σ H Q I h => ?_⟩
  refine wpAny_Call_Name_kw (ld_glob I hg hm ?_ hdb)
  refine PySem.W.callWith_K (h₀ := X.base) I.ok.mod.kin M.kp (thn (ha.run pos pins s σ H _ I h) fun us s1 ⟨vs, H1, I1, r, q⟩ => ⟨I1.kIn, ?_⟩) he hpl
  exact run_makeS M F hr hb (hx σ) I1 r q
end
end Nm

/-! _law_ordered: pairs (q, k) in ascending order. -/
namespace Nm
open PySem PySem.Spec PyProof.Rows L2 LamX
abbrev sOrdered : Stmt := topS 48
/-! ### the order -/
def QU (k : Int × Int × Int) : Prop := QF k.1 k.2.1 ∧ 0 ≤ k.2.2 ∧ k.2.2 ≤ 3
def ltK (a b : Int × Int × Int) : Prop := a.1 * b.2.1 < b.1 * a.2.1 ∨ (a.1 * b.2.1 = b.1 * a.2.1 ∧ a.2.2 < b.2.2)
def divs : List Int := [1, 2, 3, 4, 6, 12]
theorem lcm_ok : ∀ n ∈ divs, ∀ u ∈ [(1 : Int), 2, 3, 4], 0 < (Int.gcd n u : Int) ∧ (Int.gcd n u : Int) < 1073741824 ∧ n * u / (Int.gcd n u : Int) ∈ divs ∧ n * u / (Int.gcd n u : Int) % u = 0 ∧ ∀ v ∈ [(1 : Int), 2, 3, 4], n % v = 0 → n * u / (Int.gcd n u : Int) % v = 0 := by decide +kernel
theorem mem4 {u : Int} (h1 : 1 ≤ u) (h4 : u ≤ 4) : u ∈ [(1 : Int), 2, 3, 4] := by
  have : u = 1 ∨ u = 2 ∨ u = 3 ∨ u = 4 := by omega
  rcases this with rfl | rfl | rfl | rfl <;> simp
theorem divs_b {n : Int} (h : n ∈ divs) : 0 < n ∧ n ≤ 12 := by
  unfold divs at h
  simp only [List.mem_cons, List.not_mem_nil, or_false] at h
  rcases h with rfl | rfl | rfl | rfl | rfl | rfl <;> decide
theorem dvd_cop {u t v : Int} (h : u ∣ t * v) (g : Int.gcd t u = 1) : u ∣ v := by
  have z := Int.natAbs_dvd_natAbs.mpr h
  rw [Int.natAbs_mul] at z
  exact Int.natAbs_dvd_natAbs.mp (Nat.Coprime.dvd_of_dvd_mul_left (show Nat.gcd u.natAbs t.natAbs = 1 by rw [Nat.gcd_comm]; exact g) z)
theorem low_eq {t u t' u' : Int} (h : t * u' = t' * u) (g : Int.gcd t u = 1) (g' : Int.gcd t' u' = 1) (hu : 0 < u) (hu' : 0 < u') : t = t' ∧ u = u' := by
  have d1 : u ∣ u' := by
    exact dvd_cop (t := t) ⟨t', by rw [h, Int.mul_comm]⟩ g
  have d2 : u' ∣ u := by
    exact dvd_cop (t := t') ⟨t, by rw [← h, Int.mul_comm]⟩ g'
  have e : u = u' := by
    have := Int.le_of_dvd hu' d1
    have := Int.le_of_dvd hu d2
    omega
  subst e
  exact ⟨Int.eq_of_mul_eq_mul_right (by omega) h, rfl⟩
/-- the sort's places go as the fractions' worths -/
theorem kw_cmp {n t u t' u' : Int} (hn : 0 < n) (hu : 0 < u) (hu' : 0 < u') (d : n % u = 0) (d' : n % u' = 0) : (t * n.fdiv u < t' * n.fdiv u' → t * u' < t' * u) ∧ (t * n.fdiv u = t' * n.fdiv u' → t * u' = t' * u) := by
  rw [Int.fdiv_eq_ediv_of_nonneg n (by omega), Int.fdiv_eq_ediv_of_nonneg n (by omega)]
  have e : u * (n / u) = n := Int.mul_ediv_cancel_of_emod_eq_zero d
  have e' : u' * (n / u') = n := Int.mul_ediv_cancel_of_emod_eq_zero d'
  generalize n / u = a at *
  generalize n / u' = b at *
  have x1 : t * a * (u * u') = t * u' * n := by rw [← e]; simp only [Int.mul_assoc, Int.mul_comm, Int.mul_left_comm]
  have x2 : t' * b * (u * u') = t' * u * n := by rw [← e']; simp only [Int.mul_assoc, Int.mul_comm, Int.mul_left_comm]
  have p : 0 < u * u' := Int.mul_pos hu hu'
  constructor
  · intro h
    have z := Int.mul_lt_mul_of_pos_right h p
    rw [x1, x2] at z
    exact Int.lt_of_mul_lt_mul_right z (Int.le_of_lt hn)
  · intro h
    rw [h] at x1
    rw [x1] at x2
    exact Int.eq_of_mul_eq_mul_right (by omega) x2
theorem kLe_trans (n : Int) : ∀ a b c : EK, kLe n a b = true → kLe n b c = true → kLe n a c = true := by
  intro a b c h1 h2
  unfold kLe at *
  simp only [decide_eq_true_eq] at *
  omega
theorem kLe_total (n : Int) : ∀ a b : EK, (kLe n a b || kLe n b a) = true := by
  intro a b
  unfold kLe
  simp only [Bool.or_eq_true, decide_eq_true_eq]
  omega
theorem sort_ok {ks : List EK} {n : Int} (hn : 0 < n) (hq : ∀ e ∈ ks, QU e.1 ∧ n % e.1.2.1 = 0) (nd : (ks.map (·.1)).Nodup) : (ks.mergeSort (kLe n)).Perm ks ∧ (ks.mergeSort (kLe n)).Pairwise (fun p q => ltK p.1 q.1) := by
  have hp := List.mergeSort_perm ks (kLe n)
  refine ⟨hp, ?_⟩
  have s1 := List.pairwise_mergeSort (kLe_trans n) (kLe_total n) ks
  have s2 : (ks.mergeSort (kLe n)).Pairwise (fun p q => p.1 ≠ q.1) := by
    have z : ((ks.mergeSort (kLe n)).map (·.1)).Nodup := (hp.map _).nodup_iff.mpr nd
    exact List.pairwise_map.mp z
  refine (s1.and s2).imp_of_mem fun {p q} h1 h2 ⟨h, ne⟩ => ?_
  obtain ⟨⟨⟨a1, a2, a3, _, _⟩, _, _⟩, d1⟩ := hq p (hp.mem_iff.mp h1)
  obtain ⟨⟨⟨b1, b2, b3, _, _⟩, _, _⟩, d2⟩ := hq q (hp.mem_iff.mp h2)
  obtain ⟨c1, c2⟩ := kw_cmp (t := p.1.1) (t' := q.1.1) hn (by omega) (by omega) d1 d2
  unfold kLe at h
  simp only [decide_eq_true_eq] at h
  rcases h with h | ⟨h, hk⟩
  · exact .inl (c1 h)
  · have e := c2 h
    obtain ⟨e1, e2⟩ := low_eq e a3 b3 (by omega) (by omega)
    refine .inr ⟨e, ?_⟩
    have : p.1.2.2 ≠ q.1.2.2 := fun z => ne (Prod.ext e1 (Prod.ext e2 z))
    omega
/-! ### a def whose code object is known -/
structure FunC (K : PySem.W.Frag) (x qual : Str) (st : Stmt) (f : Addr) (fd : FuncData) (c : Addr) : Prop where
  ex : ∃ (oc : Value) (od : Option Addr) (kV doc pm : Value) (an : Option Addr) (ct : Value) (osl : Array (Option Value)),
    fd = PySem.W.fnOf x qual (defArgs st) (defBody st) (defScope st) .none kV doc pm an (.ref c) ct ∧ K.lookup f = some ⟨oc, od, .func fd, osl⟩ ∧ PySem.W.codeIn K (.ref c) qual = true
  kp : PySem.W.keepIn K (.ref f) = true
section
variable {P : Program} {w : World} {K : PySem.W.Frag} {mg : Str → Option Value} {base : Heap}
theorem FunC.to {x qual : Str} {st : Stmt} {f c : Addr} {fd : FuncData} (F : FunC K x qual st f fd c) : Fun K x qual st f fd := by
  obtain ⟨⟨oc, od, kV, doc, pm, an, ct, osl, rfl, lk, hcd⟩, kp⟩ := F
  exact ⟨⟨oc, od, kV, doc, pm, an, .ref c, ct, osl, rfl, lk, hcd⟩, kp⟩
theorem FunC.ok {x qual : Str} {st : Stmt} {f c : Addr} {fd : FuncData} {N ps : List Str} {k : Nat} {sp : Sp} (F : FunC K x qual st f fd c) (S : FnScope N ps (defScope st)) (len : ∀ vs H Q E, sp vs H Q E → vs.length = ps.length)
    (hbody : ∀ (A : Around) (outer : List Env) (s : Shared) (H : Hp) (vs : List V) (Q : VK) (E : XK), Room k (A.deeper (envOfC qual (defScope st) s.heap.objs.size f (.ref c))) → sp vs H Q E →
      ∃ t, PSs (cxOf CX0 P w K mg base N qual (defScope st) f (.ref c) A outer s H E).nox (defBody st) t ∧ t { nx := fun _ H' => Q .non H', rt := Q } (L2.start N vs) H) : FnOk P w K mg base CX0 (k + 1) f fd ps sp := by
  obtain ⟨oc, od, kV, doc, pm, an, ct, osl, rfl, lk, hcd⟩ := F.ex
  refine fn_of lk hcd S len fun A outer s H vs Q E hr hsp => ?_
  obtain ⟨t, h, q⟩ := hbody A outer s H vs Q E hr hsp
  exact ⟨t, h.nox, q⟩
/-! ### _law_ordered -/
def lamName : Str := ("_law_ordered" ++ ".<locals>.") ++ "<lambda>"
abbrev LT (c : Addr) : List (Addr × Str) := [(c, lamName)]
def spOrdered (T : List (Addr × Str)) : Sp := fun vs H Q _ => ∃ (l : Addr) (ks : List EK), vs = [.ref l] ∧ H l = some (.lst (ks.map fun e => .ref e.2)) ∧ Tabs T H ∧ (∀ e ∈ ks, KeyAt H e.1 e.2 ∧ QU e.1) ∧ (ks.map (·.1)).Nodup ∧ ks.length ≤ 1000 ∧
  ∀ (D : Addr) (H' : Hp) (ms : List EK), ExtN H H' → Tabs T H' → New H D → H' D = some (.lst (ms.map fun e => .ref e.2)) → ms.Perm ks → ms.Pairwise (fun p q => ltK p.1 q.1) → Q (.ref D) H'
structure OrdT (P : Program) (w : World) (K : PySem.W.Frag) (mg : Str → Option Value) (base : Heap) where
  fC : Addr
  fdC : FuncData
  FC : FnOk P w K mg base CX0 1 fC fdC ["_law_one", "_law_other"] spCommon
  bC : Binds K fdC ["_law_one", "_law_other"] []
  gC : mg "_law_common" = some (.ref fC)
  kC : PySem.W.keepIn K (.ref fC) = true
  sorted : mg "sorted" = none
theorem scOrdered : FnScope ["_law_keys", "_law_q_here", "_law_k", "_law_every"] ["_law_keys"] (defScope sOrdered) := ⟨rfl, rfl, rfl, by decide +kernel, rfl, by decide +kernel, by decide +kernel⟩
theorem ok_ordered {f c t : Addr} {fd : FuncData} (F : FunC K "_law_ordered" "_law_ordered" sOrdered f fd c) (T : OrdT P w K mg base) (TB : TabB base mg c t) : FnOk P w K mg base CX0 2 f fd ["_law_keys"] (spOrdered (LT t)) := by
  refine F.ok scOrdered (fun vs H Q E h => ?_) (fun A outer s H vs Q E hr h => ?_)
  · obtain ⟨l, ks, rfl, _⟩ := h
    rfl
  · obtain ⟨l, ks, rfl, hl, hT, hks, nd, hlen, q⟩ := h
    refine ⟨_, pss_cons (ps_set (i := 3) scOrdered.nd rfl (.inr rfl) pe_int)
      (pss_cons (ps_for PassesOwn.never rfl (pi_list (pv 0)) (pg_tup rfl (pgs_cons (pg_name (i := 1) scOrdered.nd rfl (.inl rfl)) (pgs_cons (pg_name (i := 2) scOrdered.nd rfl (.inl rfl)) pgs_nil)))
        (pss_one (ps_set (i := 3) scOrdered.nd rfl (.inr rfl) (pe_op op_fdiv (pe_op op_mul (pv 3) (pe_ix ix_tup (pv 1) pe_int (fun _ _ => rfl))) (pe_call T.FC hr (by rfl) T.gC T.kC T.bC .nil pass0 (pa_cons (pv 3) (pa_cons (pe_ix ix_tup (pv 1) pe_int (fun _ _ => rfl)) pa_nil)))))))
      (pss_one (ps_ret (pe_sortKey (i := 3) (T := LT t) (c := c) (P := t) hr (by rfl) T.sorted (pv 0) TB rfl (List.mem_singleton.mpr rfl) (fun p hp _ => by rw [List.mem_singleton.mp hp]; rfl) rfl rfl rfl rfl rfl rfl (by decide +kernel) (by decide +kernel) (by rfl) (by rfl) (fun _ _ _ _ _ _ _ => rfl))))), ?_⟩
    refine ⟨_, rfl, l, rfl, ⟨_, SqL.of hl⟩, ?_⟩
    refine for_list (K := K) (a := l) (xs := ks.map fun e => .ref e.2) (fun i σ H2 => H2 = H ∧ ∃ (x y : Option V) (n : Int), σ = [some (.ref l), x, y, some (.int n)] ∧ n ∈ divs ∧ ∀ e ∈ ks.take i, n % e.1.2.1 = 0)
      ⟨rfl, _, _, 1, rfl, by decide, fun e he => by simp at he⟩ (fun i σ H2 _ h2 => by obtain ⟨rfl, _⟩ := h2; exact SqL.of hl) (fun i x σ H2 hx h2 => ?_) (fun σ H2 h2 => ?_)
    · obtain ⟨rfl, y, z, n, rfl, hn, hd⟩ := h2
      rw [List.getElem?_map] at hx
      cases he : ks[i]? with
      | none => rw [he] at hx; cases hx
      | some e =>
        rw [he] at hx
        obtain rfl : V.ref e.2 = x := Option.some.inj hx
        have hem : e ∈ ks := List.mem_of_getElem? he
        obtain ⟨⟨qa, k1, k2⟩, ⟨u1, u2, _⟩, _⟩ := hks e hem
        obtain ⟨g1, g2, g3, g4, g5⟩ := lcm_ok n hn e.1.2.1 (mem4 u1 u2)
        obtain ⟨n1, n2⟩ := divs_b hn
        refine ⟨e.2, _, rfl, SqT.of k1, rfl, _, _, rfl, _, _, rfl, rfl, ?_⟩
        refine ⟨_, rfl, _, rfl, qa, _, 1, .int e.1.2.1, rfl, rfl, SqT.of k2, rfl, n, e.1.2.1, rfl, rfl, .inl ⟨by omega, by omega⟩, ?_⟩
        refine ⟨_, rfl, _, rfl, qa, _, 1, .int e.1.2.1, rfl, rfl, SqT.of k2, rfl, ?_⟩
        refine ⟨n, e.1.2.1, rfl, ?_⟩
        refine ⟨n * e.1.2.1, (Int.gcd n e.1.2.1 : Int), rfl, rfl, ⟨g1, g2⟩, ?_⟩
        refine ⟨rfl, _, _, _, rfl, g3, fun e' he' => ?_⟩
        rw [List.take_add_one, he] at he'
        rcases List.mem_append.mp he' with h3 | h3
        · obtain ⟨⟨v1, v2, _⟩, _⟩ := (hks e' (List.mem_of_mem_take h3)).2
          exact g5 _ (mem4 v1 v2) (hd e' h3)
        · obtain rfl : e' = e := by simpa using h3
          exact g4
    · obtain ⟨rfl, y, z, n, rfl, hn, hd⟩ := h2
      rw [List.length_map, List.take_length] at hd
      obtain ⟨n1, n2⟩ := divs_b hn
      obtain ⟨s1, s2⟩ := sort_ok n1 (fun e he => ⟨(hks e he).2, hd e he⟩) nd
      refine ⟨_, rfl, l, ks, n, rfl, hl, rfl, hT, fun e he => ?_, hlen, fun D H3 x1 x2 x3 x4 => q D H3 _ x1 x2 x3 x4 s1 s2⟩
      obtain ⟨k, ⟨u1, u2, u3, u4, u5⟩, _⟩ := hks e he
      exact ⟨k, ⟨by omega, by omega⟩, .inl ⟨by omega, by omega⟩⟩
end
end Nm

/-! _law_terms: the terms of a dict from pairs (q, k) to fractions. -/
namespace Nm
open PySem PySem.Spec PyProof.Rows L2 LamX
abbrev sTerms : Stmt := topS 49
theorem perm_lift {α β : Type} {f : α → β} : ∀ {m : List β} {l : List α}, m.Perm (l.map f) → ∃ l' : List α, l'.Perm l ∧ l'.map f = m
  | [], l, h => by
    have z : l = [] := List.map_eq_nil_iff.mp h.nil_eq.symm
    subst z
    exact ⟨[], .nil, rfl⟩
  | b :: m, l, h => by
    obtain ⟨a, ha, rfl⟩ := List.mem_map.mp (h.mem_iff.mp List.mem_cons_self)
    obtain ⟨s, t, rfl⟩ := List.append_of_mem ha
    have h2 : m.Perm ((s ++ t).map f) := by
      have z : ((s ++ a :: t).map f).Perm (f a :: (s ++ t).map f) := List.perm_middle.map f
      exact (h.trans z).cons_inv
    obtain ⟨l', p, e⟩ := perm_lift h2
    exact ⟨a :: l', (p.cons a).trans List.perm_middle.symm, by rw [List.map_cons, e]⟩
def TmAt (H0 H' : Hp) (t : Addr) (e : EN) : Prop := New H0 t ∧ ∃ qa, H' t = some (.tup [.ref e.2.2, .int e.1.2.2, .ref qa]) ∧ H0 e.2.1 = some (.tup [.ref qa, .int e.1.2.2]) ∧ H0 qa = some (.tup [.int e.1.1, .int e.1.2.1])
def spTerms (P : Program) (w : World) (T : List (Addr × Str)) : Sp := fun vs H Q _ => ∃ (d : Addr) (es : List EN) (val : EN → Int × Int), vs = [.ref d] ∧ H d = some (dN P w d es) ∧ NDict P w H d es ∧ Tabs T H ∧
  (∀ e ∈ es, QU e.1 ∧ H e.2.2 = some (.tup [.int (val e).1, .int (val e).2])) ∧
  ∀ (D : Addr) (H' : Hp) (rs : List (Addr × EN)), ExtN H H' → Tabs T H' → New H D → H' D = some (.tup (rs.map fun r => .ref r.1)) → (rs.map (·.2)).Perm (es.filter fun e => decide ((val e).1 ≠ 0)) →
    (rs.map (·.2)).Pairwise (fun p q => ltK p.1 q.1) → (∀ r ∈ rs, TmAt H H' r.1 r.2) → Q (.ref D) H'
section
variable {P : Program} {w : World} {K : PySem.W.Frag} {mg : Str → Option Value} {base : Heap}
structure TrmT (P : Program) (w : World) (K : PySem.W.Frag) (mg : Str → Option Value) (base : Heap) (t : Addr) where
  fO : Addr
  fdO : FuncData
  FO : FnOk P w K mg base CX0 2 fO fdO ["_law_keys"] (spOrdered (LT t))
  bO : Binds K fdO ["_law_keys"] []
  gO : mg "_law_ordered" = some (.ref fO)
  kO : PySem.W.keepIn K (.ref fO) = true
  tuple : mg "tuple" = none
theorem scTerms : FnScope ["_law_parts", "_law_left", "_law_key"] ["_law_parts"] (defScope sTerms) := ⟨rfl, rfl, rfl, by decide +kernel, rfl, by decide +kernel, by decide +kernel⟩
theorem New.of {H H1 : Hp} {p : Addr} (e : ExtN H H1) (n : New H1 p) : New H p := fun o h => by
  by_cases q : ∃ ps, o = .tbl ps
  · exact q
  · exact n o (e _ _ h fun ps z => q ⟨ps, z⟩)
theorem New.none {H : Hp} {p : Addr} (h : H p = none) : New H p := fun o z => by
  rw [h] at z
  cases z
theorem ok_terms {f t : Addr} {fd : FuncData} (F : Fun K "_law_terms" "_law_terms" sTerms f fd) (T : TrmT P w K mg base t) : FnOk P w K mg base CX0 3 f fd ["_law_parts"] (spTerms P w (LT t)) := by
  refine F.ok scTerms (fun vs H Q E h => ?_) (fun cdv A outer s H vs Q E hr h => ?_)
  · obtain ⟨d, es, val, rfl, _⟩ := h
    rfl
  · obtain ⟨d, es, val, rfl, hd, N, hT, hes, q⟩ := h
    refine ⟨_, pss_cons (ps_lock (ps_setLc (i := 1) (own := [("_law_key", 2)]) (g := gName 2) (by rfl) scTerms.nd rfl rfl (sw_true rfl rfl rfl (by decide +kernel)) (pi_nkeys (pv 0))
          (blkOk_by (N := ["_law_parts", "_law_left", "_law_key"]) (sc := defScope sTerms) (by decide +kernel)) (fun _ _ _ _ _ => pg_name (i := 2) scTerms.nd rfl (Or.inl rfl))
          (fun _ _ _ _ _ => pts_one (pt_cmpR op_ne (pe_ix (ix_tupC (K := K) (by rfl)) (pe_ngetC (P := P) (w := w) (by rfl) (by rfl) (by exact hr) (pv 0) (pv 2) (fun _ _ => rfl)) pe_int (fun _ _ => rfl)) pe_int (nomark _)))
          (fun _ _ _ _ _ => pv 2)))
      (pss_one (ps_ret (pe_callTy call_tuple_of (by rfl) T.tuple (by decide +kernel) (pa_cons
        (pe_lc (own := [("_law_key", 2)]) (g := gName 2) (tt := tYes) rfl scTerms.nd (pi_list (pe_call T.FO hr (by rfl) T.gO T.kO T.bO .nil pass0 (pa_cons (pv 1) pa_nil))) (blkOk_by (N := ["_law_parts", "_law_left", "_law_key"]) (sc := defScope sTerms) (by decide +kernel))
          (fun _ _ _ _ _ => pg_name (i := 2) scTerms.nd rfl (Or.inl rfl)) (fun _ _ _ _ _ => pts_nil)
          (fun _ _ _ _ _ => pe_tup (pa_cons (pe_ngetC (P := P) (w := w) (by rfl) (by rfl) (by exact hr) (pv 0) (pv 2) (fun _ _ => rfl)) (pa_cons (pe_ix (ix_tupC (K := K) (by rfl)) (pv 2) pe_int (fun _ _ => rfl)) (pa_cons (pe_ix (ix_tupC (K := K) (by rfl)) (pv 2) pe_int (fun _ _ => rfl)) pa_nil))))) pa_nil)))), ?_⟩
    refine ⟨d, dN P w d es, hd, dN_mut, fun od => ?_⟩
    obtain ⟨H1, eH1⟩ : ∃ H1, H1 = L2.upd H d (.frz od (dN P w d es)) := ⟨_, rfl⟩
    have N1 : NDict P w H1 d es := by rw [eH1]; exact N.lock hd
    have hd1 : H1 d = some (.frz od (dN P w d es)) := by rw [eH1, upd_same]
    have o1 : ∀ c, c ≠ d → H1 c = H c := fun c hc => by rw [eH1, upd_ne hc]
    rw [← eH1]
    refine ⟨_, rfl, d, od, es, rfl, hd1, N1, fun D hD => ?_⟩
    have nDd : D ≠ d := (ne_of_none hd1 hD).symm
    have fD : H D = none := by rw [← o1 D nDd]; exact hD
    have tupd : ∀ c xs, H c = some (.tup xs) → c ≠ d ∧ c ≠ D := fun c xs h => ⟨ne_of h hd (fun z => nomatch z), ne_of_none h fD⟩
    have up1 : ∀ (xs : List V) c ys, H c = some (.tup ys) → L2.upd H1 D (.lst xs) c = some (.tup ys) := fun xs c ys h => by
      obtain ⟨a, b⟩ := tupd c ys h
      rw [upd_ne b, o1 c a]
      exact h
    have N2 : ∀ xs : List V, NDict P w (L2.upd H1 D (.lst xs)) d es := fun xs => N.keep (.inr ⟨od, by rw [upd_ne nDd.symm]; exact hd1⟩) (up1 xs)
    refine lc_n (P := P) (w := w) (d := d) (o := od) (es := es) (fun i H2 => H2 = L2.upd H1 D (.lst (((es.take i).filter fun e => decide ((val e).1 ≠ 0)).map fun e => .ref e.2.1))) rfl (fun i H2 _ h2 => by
      rw [h2]
      exact ⟨by rw [upd_ne nDd.symm]; exact hd1, N2 _⟩) (fun i e H2 he h2 => ?_) (fun H2 h2 => ?_)
    · subst h2
      have hem : e ∈ es := List.mem_of_getElem? he
      obtain ⟨qa, k1, k2⟩ := N.key e hem
      obtain ⟨_, hv⟩ := hes e hem
      have ti : es.take (i + 1) = es.take i ++ [e] := by rw [List.take_add_one, he]; rfl
      refine ⟨rfl, _, rfl, _, rfl, d, es, e, e.2.1, qa, rfl, rfl, N2 _, hem, up1 _ _ _ k1, up1 _ _ _ k2, ?_⟩
      refine ⟨e.2.2, _, 0, .int (val e).1, rfl, rfl, SqT.of (up1 _ _ _ hv), rfl, rfl, _, rfl, ?_⟩
      refine ite2 (fun c => ?_) (fun c => ?_)
      · have c' : decide ((val e).1 ≠ 0) = true := by simpa using c
        refine ⟨_, rfl, _, upd_same, ?_, ?_⟩
        · refine Nat.lt_of_le_of_lt (m := 1000) ?_ (by decide)
          rw [List.length_map]
          exact Nat.le_trans (List.length_filter_le _ _) (by rw [List.length_take]; have := N.len; omega)
        · show L2.upd (L2.upd H1 D _) D _ = _
          have z : [e].filter (fun e => decide ((val e).1 ≠ 0)) = [e] := List.filter_cons_of_pos (p := fun e => decide ((val e).1 ≠ 0)) c'
          rw [upd_upd, ti, List.filter_append, List.map_append, z]
          rfl
      · have c' : ¬ decide ((val e).1 ≠ 0) = true := by simpa using c
        show L2.upd H1 D _ = _
        have z : [e].filter (fun e => decide ((val e).1 ≠ 0)) = [] := List.filter_cons_of_neg (p := fun e => decide ((val e).1 ≠ 0)) c'
        rw [ti, List.filter_append, z, List.append_nil]
    · rw [List.take_length] at h2
      obtain ⟨kept, ekept⟩ : ∃ kept, kept = es.filter fun e => decide ((val e).1 ≠ 0) := ⟨_, rfl⟩
      rw [← ekept] at h2
      have kin : ∀ e ∈ kept, e ∈ es := fun e he => by rw [ekept] at he; exact (List.mem_filter.mp he).1
      obtain ⟨H3, eH3⟩ : ∃ H3, H3 = L2.upd H2 d (dN P w d es) := ⟨_, rfl⟩
      have hD3 : H3 D = some (.lst (kept.map fun e => .ref e.2.1)) := by rw [eH3, upd_ne nDd, h2, upd_same]
      have hd3 : H3 d = some (dN P w d es) := by rw [eH3, upd_same]
      have s3 : Same H H3 := fun c o h => by
        by_cases hc : c = d
        · rw [hc] at h ⊢
          rw [hd3, ← h]
          exact hd.symm
        · rw [eH3, upd_ne hc, h2, upd_ne (ne_of_none h fD), o1 c hc]
          exact h
      refine ⟨by rw [h2, upd_ne nDd.symm]; exact hd1, ?_⟩
      rw [← eH3]
      refine ⟨_, rfl, D, kept.map (fun e => (e.1, e.2.1)), rfl, by rw [List.map_map]; exact hD3, hT.ext s3, fun x hx => ?_, ?_, ?_, fun D2 H4 ms0 x1 x2 x3 x4 pm pw => ?_⟩
      · obtain ⟨e, he, rfl⟩ := List.mem_map.mp hx
        obtain ⟨qa, k1, k2⟩ := N.key e (kin e he)
        exact ⟨⟨qa, s3 _ _ k1, s3 _ _ k2⟩, (hes e (kin e he)).1⟩
      · rw [List.map_map]
        have z : ((fun e : EK => e.1) ∘ fun e : EN => (e.1, e.2.1)) = fun e : EN => e.1 := rfl
        rw [z, ekept]
        exact N.nd.sublist (List.filter_sublist.map _)
      · rw [List.length_map, ekept]
        exact Nat.le_trans (List.length_filter_le _ _) N.len
      · obtain ⟨ms, pms, rfl⟩ := perm_lift pm
        rw [List.map_map] at x4
        have pw2 : ms.Pairwise (fun p q => ltK p.1 q.1) := (List.pairwise_map (f := fun e : EN => ((e.1, e.2.1) : EK)) (R := fun p q : EK => ltK p.1 q.1)).mp pw
        have e4 : ExtN H H4 := (ExtN.of s3).trans x1
        have tup4 : ∀ c xs, H c = some (.tup xs) → H4 c = some (.tup xs) := fun c xs h => e4 _ _ h (fun _ z => nomatch z)
        have N4 : NDict P w H4 d es := N.keep (.inl (e4 _ _ hd (fun _ z => nomatch z))) tup4
        have hms : ∀ e ∈ ms, e ∈ es := fun e he => kin e (pms.mem_iff.mp he)
        have lms : ms.length ≤ 1000 := by
          rw [pms.length_eq, ekept]
          exact Nat.le_trans (List.length_filter_le _ _) N.len
        refine ⟨D2, rfl, ⟨_, SqL.of x4⟩, fun D3 hD3' => ?_⟩
        refine lc_list (K := K) (a := D2) (xs := ms.map fun e => .ref e.2.1) (fun i H5 => ∃ rs : List (Addr × EN), rs.map (·.2) = ms.take i ∧ H5 D3 = some (.lst (rs.map fun r => .ref r.1)) ∧ Same H4 H5 ∧ ∀ r ∈ rs, TmAt H H5 r.1 r.2)
          ⟨[], rfl, upd_same, same_upd hD3', fun _ h => nomatch h⟩ (fun i H5 _ ⟨rs, _, _, s5, _⟩ => SqL.of (s5 _ _ x4)) (fun i x H5 hx ⟨rs, r1, r2, s5, r3⟩ => ?_) (fun H5 ⟨rs, r1, r2, s5, r3⟩ => ?_)
        · rw [List.getElem?_map] at hx
          cases he : ms[i]? with
          | none => rw [he] at hx; cases hx
          | some e =>
            rw [he] at hx
            obtain rfl : V.ref e.2.1 = x := Option.some.inj hx
            have hem := hms e (List.mem_of_getElem? he)
            obtain ⟨qa, k1, k2⟩ := N.key e hem
            have l1 := s5 _ _ (tup4 _ _ k1)
            have l2 := s5 _ _ (tup4 _ _ k2)
            refine ⟨rfl, ?_⟩
            unfold tYes
            dsimp only
            rw [if_pos rfl]
            refine ⟨_, rfl, _, rfl, d, es, e, e.2.1, qa, rfl, rfl, N4.keep (.inl (s5 _ _ (e4 _ _ hd (fun _ z => nomatch z)))) (fun c xs h => s5 _ _ h), hem, l1, l2, ?_⟩
            refine ⟨_, rfl, e.2.1, _, 1, .int e.1.2.2, rfl, rfl, SqT.of l1, rfl, ?_⟩
            refine ⟨_, rfl, e.2.1, _, 0, .ref qa, rfl, rfl, SqT.of l1, rfl, (by show 3 ≤ sizeLine; decide), fun t' nt => ?_⟩
            obtain ⟨H6, eH6⟩ : ∃ H6, H6 = L2.upd H5 t' (.tup [.ref e.2.2, .int e.1.2.2, .ref qa]) := ⟨_, rfl⟩
            rw [← eH6]
            have s6 : Same H5 H6 := by rw [eH6]; exact same_upd nt
            have ht6 : H6 t' = some (.tup [.ref e.2.2, .int e.1.2.2, .ref qa]) := by rw [eH6, upd_same]
            have n3 : t' ≠ D3 := (ne_of_none r2 nt).symm
            refine ⟨_, s6 _ _ r2, ?_, rs ++ [(t', e)], ?_, ?_, ?_, ?_⟩
            · have z := congrArg List.length r1
              rw [List.length_map, List.length_take] at z
              rw [List.length_map]
              exact Nat.lt_of_le_of_lt (show rs.length ≤ 1000 by omega) (by decide)
            · rw [List.map_append, r1, List.take_add_one, he]
              rfl
            · rw [upd_same, List.map_append]
              rfl
            · exact fun c o h => by
                rw [upd_ne (ne_of_none h hD3')]
                exact s6 _ _ (s5 _ _ h)
            · intro r hr'
              have keep : ∀ c xs, H6 c = some (.tup xs) → L2.upd H6 D3 (.lst ((rs.map fun r => V.ref r.1) ++ [V.ref t'])) c = some (.tup xs) := fun c xs h => by
                rw [upd_ne (ne_of h (s6 _ _ r2) (fun z => nomatch z))]
                exact h
              rcases List.mem_append.mp hr' with hr' | hr'
              · obtain ⟨a1, qb, a2, a3, a4⟩ := r3 r hr'
                exact ⟨a1, qb, keep _ _ (s6 _ _ a2), a3, a4⟩
              · obtain rfl : r = (t', e) := by simpa using hr'
                exact ⟨New.of (e4.trans (ExtN.of s5)) (New.none nt), qa, keep _ _ ht6, k1, k2⟩
        · rw [List.length_map, List.take_length] at r1
          refine ⟨D3, _, rfl, .inl ⟨SqL.of r2, fun l nl => ?_⟩⟩
          have s6 : Same H5 (L2.upd H5 l (.tup (rs.map fun r => .ref r.1))) := same_upd nl
          refine q l _ rs (e4.trans ((ExtN.of s5).trans (ExtN.of s6))) ((x2.ext s5).ext s6) (New.of (e4.trans (ExtN.of s5)) (New.none nl)) upd_same ?_ ?_ fun r hr' => ?_
          · rw [r1, ← ekept]
            exact pms
          · rw [r1]
            exact pw2
          · obtain ⟨a1, qb, a2, a3, a4⟩ := r3 r hr'
            exact ⟨a1, qb, s6 _ _ a2, a3, a4⟩
end
end Nm

/-! _law_curve: the terms of a drawn curve. -/
namespace Nm
open PySem PySem.Spec PyProof.Rows L2 LamX
abbrev sCurve : Stmt := topS 53
/-! ### terms as data -/
/-- (c, k, q) -/
abbrev Tm := (Int × Int) × Int × Int × Int
def Tm.key (t : Tm) : Int × Int × Int := (t.2.2.1, t.2.2.2, t.2.1)
def tmD (t : Tm) : PyData := .tuple [.tuple [.int t.1.1, .int t.1.2], .int t.2.1, .tuple [.int t.2.2.1, .int t.2.2.2]]
def cvD (ts : List Tm) : PyData := .tuple (ts.map tmD)
def TmOk (t : Tm) : Prop := CF t.1.1 t.1.2 ∧ QU t.key
def CvOk (ts : List Tm) : Prop := (∀ t ∈ ts, TmOk t) ∧ ts.Pairwise (fun p q => ltK p.key q.key)
/-- all but the bag's two lists and tables of code objects is as it was -/
def KT (b g : Addr) (H H' : Hp) : Prop := ∀ c o, H c = some o → c ≠ b → c ≠ g → (∀ ps, o ≠ .tbl ps) → H' c = some o
theorem KT.refl {b g : Addr} (H : Hp) : KT b g H H := fun _ _ h _ _ _ => h
theorem KT.trans {b g : Addr} {H H1 H2 : Hp} (x : KT b g H H1) (y : KT b g H1 H2) : KT b g H H2 := fun c o h n1 n2 n3 => y c o (x c o h n1 n2 n3) n1 n2 n3
theorem KT.of {b g : Addr} {H H' : Hp} (x : ExtN H H') : KT b g H H' := fun c o h _ _ n => x c o h n
theorem KT.ofB {b g : Addr} {H H' : Hp} (x : KeptB b g H H') : KT b g H H' := fun c o h n1 n2 _ => x c o h n1 n2
section
variable {b g c : Addr} {n : Nat} {H H' : Hp}
theorem BagAt.ne_lst (B : BagAt H b g n) : (∃ xs, H b = some (.lst xs)) ∧ ∃ xs, H g = some (.lst xs) := by
  obtain ⟨_, ⟨_, _, _, h1, _⟩, _, h2, _⟩ := B
  exact ⟨⟨_, h1⟩, ⟨_, h2⟩⟩
theorem BagAt.off2 (B : BagAt H b g n) {o : HO} (h : H c = some o) (no : ∀ xs, o ≠ .lst xs) : c ≠ b ∧ c ≠ g := by
  obtain ⟨⟨xs, h1⟩, ys, h2⟩ := B.ne_lst
  exact ⟨fun z => by rw [z, h1] at h; exact no xs (Option.some.inj h).symm, fun z => by rw [z, h2] at h; exact no ys (Option.some.inj h).symm⟩
theorem KeptB.tup (k : KeptB b g H H') (B : BagAt H b g n) {xs : List V} (h : H c = some (.tup xs)) : H' c = some (.tup xs) := by
  obtain ⟨n1, n2⟩ := B.off2 h (fun _ z => nomatch z)
  exact k c _ h n1 n2
theorem KT.tup (k : KT b g H H') (B : BagAt H b g n) {xs : List V} (h : H c = some (.tup xs)) : H' c = some (.tup xs) := by
  obtain ⟨n1, n2⟩ := B.off2 h (fun _ z => nomatch z)
  exact k c _ h n1 n2 (fun _ z => nomatch z)
theorem BagAt.ext (B : BagAt H b g n) (e : ExtN H H') : BagAt H' b g n := by
  obtain ⟨ne, ⟨seed, c, al, h1, h2⟩, gs, h3, h4⟩ := B
  exact ⟨ne, ⟨seed, c, al, e _ _ h1 (fun _ z => nomatch z), h2⟩, gs, e _ _ h3 (fun _ z => nomatch z), h4⟩
theorem Tabs.keptB {T : List (Addr × Str)} (t : Tabs T H) (k : KeptB b g H H') (B : BagAt H b g n) : Tabs T H' := fun p hp => by
  obtain ⟨ps, h1, h2, h3⟩ := t p hp
  have off : ∀ {c : Addr} {o : HO}, H c = some o → (∀ xs, o ≠ .lst xs) → H' c = some o := fun {c o} h no => by
    obtain ⟨n1, n2⟩ := B.off2 h no
    exact k c o h n1 n2
  refine ⟨ps, off h1 (fun _ z => nomatch z), h2, fun pos cv hc => ?_⟩
  obtain ⟨c, e1, e2⟩ := h3 pos cv hc
  refine ⟨c, e1, off e2 fun xs z => ?_⟩
  unfold CodeO at z
  cases z
theorem New.ofB (B : BagAt H' b g n) (k : KeptB b g H H') (x : New H' c) : New H c := fun o h => by
  obtain ⟨⟨xs, h1⟩, ys, h2⟩ := B.ne_lst
  have n1 : c ≠ b := fun z => by
    obtain ⟨ps, e⟩ := x _ (by rw [z]; exact h1)
    cases e
  have n2 : c ≠ g := fun z => by
    obtain ⟨ps, e⟩ := x _ (by rw [z]; exact h2)
    cases e
  exact x o (k c o h n1 n2)
end
/-! ### what stands while a curve is drawn -/
def QA (H0 H : Hp) (q : Addr) : Prop := H0 q = none ∧ ∃ t u, H q = some (.tup [.int t, .int u]) ∧ QF t u
def CA (H0 H : Hp) (q : Addr) : Prop := H0 q = none ∧ ∃ t u, H q = some (.tup [.int t, .int u]) ∧ CF t u
structure Cv (P : Program) (w : World) (b g d l : Addr) (n : Nat) (H0 H : Hp) (i : Nat) : Prop where
  bag : BagAt H b g n
  kb : KeptB b g H0 H
  few : ∃ q1 q2 q3, H l = some (.lst [.ref q1, .ref q2, .ref q3]) ∧ QA H0 H q1 ∧ QA H0 H q2 ∧ QA H0 H q3
  dict : ∃ es, H d = some (dN P w d es) ∧ NDict P w H d es ∧ es.length ≤ i ∧ ∀ e ∈ es, QU e.1 ∧ CA H0 H e.2.2 ∧ ∀ qa k, H e.2.1 = some (.tup [.ref qa, k]) → H0 qa = none
  dn : H0 d = none
  ln : H0 l = none
  lo : l ≠ b ∧ l ≠ g
section
variable {P : Program} {w : World} {b g d l : Addr} {n m : Nat} {H0 H H' : Hp} {i : Nat}
theorem QA.keep {q : Addr} (x : QA H0 H q) (k : KeptB b g H H') (B : BagAt H b g n) : QA H0 H' q := by
  obtain ⟨x1, t, u, x2, x3⟩ := x
  exact ⟨x1, t, u, k.tup B x2, x3⟩
theorem CA.keep {q : Addr} (x : CA H0 H q) (k : KeptB b g H H') (B : BagAt H b g n) : CA H0 H' q := by
  obtain ⟨x1, t, u, x2, x3⟩ := x
  exact ⟨x1, t, u, k.tup B x2, x3⟩
theorem Cv.keep (c : Cv P w b g d l n H0 H i) (k : KeptB b g H H') (B' : BagAt H' b g m) : Cv P w b g d l m H0 H' i := by
  obtain ⟨B, kb, ⟨q1, q2, q3, f1, f2, f3, f4⟩, ⟨es, d1, d2, d3, d4⟩, dn, ln, lo⟩ := c
  have dd : H' d = some (dN P w d es) := by
    obtain ⟨n1, n2⟩ := B.off2 d1 (fun xs z => by unfold dN at z; cases z)
    exact k _ _ d1 n1 n2
  refine ⟨B', kb.trans k, ⟨q1, q2, q3, k _ _ f1 lo.1 lo.2, f2.keep k B, f3.keep k B, f4.keep k B⟩, ⟨es, dd, d2.keep (.inl dd) (fun c xs h => k.tup B h), d3, fun e he => ?_⟩, dn, ln, lo⟩
  obtain ⟨e1, e2, e3⟩ := d4 e he
  refine ⟨e1, e2.keep k B, fun qa kk h => ?_⟩
  obtain ⟨qb, k1, k2⟩ := d2.key e he
  have z := k.tup B k1
  rw [z] at h
  have h2 : [V.ref qb, V.int e.1.2.2] = [V.ref qa, kk] := by
    have z := Option.some.inj h
    injection z
  simp only [List.cons.injEq, V.ref.injEq, and_true] at h2
  rw [← h2.1]
  exact e3 qb _ k1
theorem Cv.mono (c : Cv P w b g d l n H0 H i) {j : Nat} (h : i ≤ j) : Cv P w b g d l n H0 H j := by
  obtain ⟨B, kb, f, ⟨es, d1, d2, d3, d4⟩, r1, r2, r3⟩ := c
  exact ⟨B, kb, f, ⟨es, d1, d2, by omega, d4⟩, r1, r2, r3⟩
theorem Cv.store (c : Cv P w b g d l n H0 H i) {es : List EN} {k : Int × Int × Int} {ka qa va : Addr} (hd : H d = some (dN P w d es)) (N : NDict P w H d es) (hl : es.length ≤ i) (hi : i < 1000)
    (hes : ∀ e ∈ es, QU e.1 ∧ CA H0 H e.2.2 ∧ ∀ qa k, H e.2.1 = some (.tup [.ref qa, k]) → H0 qa = none) (h1 : H ka = some (.tup [.ref qa, .int k.2.2])) (h2 : H qa = some (.tup [.int k.1, .int k.2.1])) (hk : QU k) (hq : H0 qa = none) (hv : CA H0 H va) :
    Cv P w b g d l n H0 (L2.upd H d (dN P w d (putE es k ka va))) (i + 1) := by
  have N2 := N.put (va := va) hd (by omega) h1 h2
  have up : ∀ x xs, H x = some (.tup xs) → L2.upd H d (dN P w d (putE es k ka va)) x = some (.tup xs) := fun x xs q => by
    rw [upd_ne (ne_of q hd (fun z => nomatch z))]
    exact q
  have down : ∀ x xs ys, H x = some (.tup xs) → L2.upd H d (dN P w d (putE es k ka va)) x = some (.tup ys) → xs = ys := fun x xs ys q r => by
    rw [up x xs q] at r
    have z := Option.some.inj r
    injection z
  have upC : ∀ x, CA H0 H x → CA H0 (L2.upd H d (dN P w d (putE es k ka va))) x := fun x ⟨a1, t, u, a2, a3⟩ => ⟨a1, t, u, up _ _ a2, a3⟩
  have upQ : ∀ x, QA H0 H x → QA H0 (L2.upd H d (dN P w d (putE es k ka va))) x := fun x ⟨a1, t, u, a2, a3⟩ => ⟨a1, t, u, up _ _ a2, a3⟩
  obtain ⟨B, kb, ⟨q1, q2, q3, f1, f2, f3, f4⟩, _, dn, ln, lo⟩ := c
  obtain ⟨n1, n2⟩ := B.off2 hd (fun xs z => by unfold dN at z; cases z)
  have nl : l ≠ d := ne_of f1 hd (fun z => by unfold dN at z; cases z)
  refine ⟨?_, fun c o h x1 x2 => ?_, ⟨q1, q2, q3, by rw [upd_ne nl]; exact f1, upQ _ f2, upQ _ f3, upQ _ f4⟩, ⟨_, upd_same, N2, ?_, fun e he => ?_⟩, dn, ln, lo⟩
  · exact B.upd n1.symm n2.symm
  · rw [upd_ne (ne_of_none h dn)]
    exact kb c o h x1 x2
  · have := put_len es k ka va
    omega
  · rcases put_mem he with rfl | ⟨e1, e2, v, hm⟩ | hm
    · refine ⟨hk, upC _ hv, fun qb kk h => ?_⟩
      have z := down _ _ _ h1 h
      simp only [List.cons.injEq, V.ref.injEq, and_true] at z
      rw [← z.1]
      exact hq
    · obtain ⟨a1, a2, a3⟩ := hes _ hm
      refine ⟨by rw [e1]; exact a1, by rw [e2]; exact upC _ hv, fun qb kk h => ?_⟩
      obtain ⟨qc, k1, _⟩ := N.key _ hm
      have z := down _ _ _ k1 h
      simp only [List.cons.injEq, V.ref.injEq, and_true] at z
      rw [← z.1]
      exact a3 _ _ k1
    · obtain ⟨a1, a2, a3⟩ := hes _ hm
      refine ⟨a1, upC _ a2, fun qb kk h => ?_⟩
      obtain ⟨qc, k1, _⟩ := N.key _ hm
      have z := down _ _ _ k1 h
      simp only [List.cons.injEq, V.ref.injEq, and_true] at z
      rw [← z.1]
      exact a3 _ _ k1
end
/-! ### the promise -/
def spCurve (T : List (Addr × Str)) : Sp := fun vs H Q _ => ∃ (b g : Addr) (n : Nat) (size : Int), vs = [.ref b, .int size] ∧ BagAt H b g n ∧ n < 999999900000 ∧ 0 ≤ size ∧ size ≤ 30 ∧ Tabs T H ∧
  ∀ (D : Addr) (H' : Hp) (ts : List Tm), CvOk ts → (ts.length : Int) ≤ size → KT b g H H' → Tabs T H' → BagAt H' b g (n + 500) → DS (New H) H' (.ref D) (cvD ts) → Q (.ref D) H'
section
variable {P : Program} {w : World} {K : PySem.W.Frag} {mg : Str → Option Value} {base : Heap}
structure CrvT (P : Program) (w : World) (K : PySem.W.Frag) (mg : Str → Option Value) (base : Heap) (t : Addr) extends NumT P w K mg base where
  fQ : Addr
  fdQ : FuncData
  fC : Addr
  fdC : FuncData
  fT : Addr
  fdT : FuncData
  FQ : FnOk P w K mg base CX0 3 fQ fdQ ["_law_bag_here"] spQ
  FC : FnOk P w K mg base CX0 3 fC fdC ["_law_bag_here"] spC
  FT : FnOk P w K mg base CX0 3 fT fdT ["_law_parts"] (spTerms P w (LT t))
  bQ : Binds K fdQ ["_law_bag_here"] []
  bC : Binds K fdC ["_law_bag_here"] []
  bT : Binds K fdT ["_law_parts"] []
  gQ : mg "_law_q" = some (.ref fQ)
  gC : mg "_law_c" = some (.ref fC)
  gT : mg "_law_terms" = some (.ref fT)
  kQ : PySem.W.keepIn K (.ref fQ) = true
  kC : PySem.W.keepIn K (.ref fC) = true
  kT : PySem.W.keepIn K (.ref fT) = true
  range : mg "range" = none
theorem scCurve : FnScope ["_law_bag_here", "_law_size", "_law_parts", "_law_few", "_law_turn", "_law_q_here"] ["_law_bag_here", "_law_size"] (defScope sCurve) := ⟨rfl, rfl, rfl, by decide +kernel, rfl, by decide +kernel, by decide +kernel⟩
theorem ok_curve {f t : Addr} {fd : FuncData} (F : Fun K "_law_curve" "_law_curve" sCurve f fd) (T : CrvT P w K mg base t) : FnOk P w K mg base CX0 4 f fd ["_law_bag_here", "_law_size"] (spCurve (LT t)) := by
  refine F.ok scCurve (fun vs H Q E h => ?_) (fun cdv A outer s H vs Q E hr h => ?_)
  · obtain ⟨b, g, n, size, rfl, _⟩ := h
    rfl
  · obtain ⟨b, g, n, size, rfl, B, hn, s0, s1, hT, q⟩ := h
    have hr2 : Room 2 _ := hr.mono (by decide)
    have hr1 : Room 1 _ := hr.mono (by decide)
    refine ⟨_, pss_cons (ps_par (i := 2) (j := 3) (by rfl) scCurve.nd rfl rfl (by decide) rfl rfl (pa_cons (pe_nnewC (P := P) (w := w) rfl rfl) (pa_cons (pe_lst (pa_cons (pe_call T.FQ hr (by rfl) T.gQ T.kQ T.bQ .nil pass0 (pa_cons (pv 0) pa_nil)) (pa_cons (pe_call T.FQ hr (by rfl) T.gQ T.kQ T.bQ .nil pass0 (pa_cons (pv 0) pa_nil))
          (pa_cons (pe_tup (pa_cons pe_int (pa_cons pe_int pa_nil))) pa_nil)))) pa_nil)) (by rfl))
      (pss_cons (ps_for PassesOwn.never rfl (pi_range1 rfl T.range (pa_cons (pe_call T.FP hr1 (by rfl) T.gP T.kP T.bP .nil pass0 (pa_cons (pv 0) (pa_cons (pe_op op_add (pv 1) pe_int) pa_nil))) pa_nil)) (pg_name (i := 4) scCurve.nd rfl (Or.inl rfl))
        (pss_cons (ps_set (i := 5) scCurve.nd rfl (.inl rfl) (pe_ifExp (pt_cmpR op_gt (pe_call T.FP hr1 (by rfl) T.gP T.kP T.bP .nil pass0 (pa_cons (pv 0) (pa_cons pe_int pa_nil))) pe_int (nomark _))
            (pe_call T.FS hr2 (by rfl) T.gS T.kS T.bS .nil pass0 (pa_cons (pv 0) (pa_cons (pv 3) pa_nil))) (pe_call T.FQ hr (by rfl) T.gQ T.kQ T.bQ .nil pass0 (pa_cons (pv 0) pa_nil))))
        (pss_one (ps_nputC (P := P) (w := w) rfl rfl hr (pv 2) (pe_tup (pa_cons (pv 5) (pa_cons (pe_call T.FP hr1 (by rfl) T.gP T.kP T.bP .nil pass0 (pa_cons (pv 0) (pa_cons pe_int pa_nil))) pa_nil))) (pe_call T.FC hr (by rfl) T.gC T.kC T.bC .nil pass0 (pa_cons (pv 0) pa_nil))))))
      (pss_one (ps_ret (pe_call T.FT hr (by rfl) T.gT T.kT T.bT .nil pass0 (pa_cons (pv 2) pa_nil))))), ?_⟩
    -- {}, [q, q, (0, 1)]
    intro d hd ds
    have kd : KeptB b g H (L2.upd H d (dN P w d [])) := KeptB.of (same_upd hd)
    have Bd : BagAt (L2.upd H d (dN P w d [])) b g n := B.new hd
    have Nd : NDict P w (L2.upd H d (dN P w d [])) d [] := NDict.nil ds
    have hdd : L2.upd H d (dN P w d []) d = some (dN P w d []) := upd_same
    generalize L2.upd H d (dN P w d []) = H1 at *
    refine ⟨_, rfl, b, g, n, rfl, Bd, by omega, fun p1 t1 u1 H2 qf1 k1 B2 pn1 pt1 => ?_⟩
    refine ⟨_, rfl, b, g, n + 3, rfl, B2, by omega, fun p2 t2 u2 H3 qf2 k2 B3 pn2 pt2 => ?_⟩
    refine ⟨(by show 2 ≤ sizeLine; decide), fun p3 pn3 => ?_⟩
    have k3 : KeptB b g H3 (L2.upd H3 p3 (.tup [.int 0, .int 1])) := KeptB.of (same_upd pn3)
    have B4 : BagAt (L2.upd H3 p3 (.tup [.int 0, .int 1])) b g (n + 6) := B3.new pn3
    have pt3 : L2.upd H3 p3 (.tup [.int 0, .int 1]) p3 = some (.tup [.int 0, .int 1]) := upd_same
    generalize L2.upd H3 p3 (.tup [.int 0, .int 1]) = H4 at *
    refine ⟨(by show 3 ≤ sizeLine; decide), fun l nl => ?_⟩
    obtain ⟨lo1, lo2⟩ := B4.off (H2 := H) nl
    have c0 : Cv P w b g d l (n + 6) H (L2.upd H4 l (.lst [.ref p1, .ref p2, .ref p3])) 0 := by
      have kH4 : KeptB b g H H4 := ((kd.trans k1).trans k2).trans k3
      have kl : KeptB b g H4 (L2.upd H4 l (.lst [.ref p1, .ref p2, .ref p3])) := KeptB.of (same_upd nl)
      have up : ∀ c xs, H4 c = some (.tup xs) → L2.upd H4 l (.lst [.ref p1, .ref p2, .ref p3]) c = some (.tup xs) := fun c xs h => kl.tup B4 h
      have free : ∀ {c : Addr} {H' H'' : Hp} {xs : List V} {nn : Nat}, KeptB b g H H' → H' c = none → KeptB b g H' H'' → BagAt H'' b g nn → H'' c = some (.tup xs) → H c = none := fun {c H' H'' xs nn} a1 a2 a3 a4 a5 => by
        obtain ⟨n1, n2⟩ := a4.off2 a5 (fun _ z => nomatch z)
        exact a1.free B a2 n1 n2
      have hd4 : H4 d = some (dN P w d []) := by
        obtain ⟨n1, n2⟩ := Bd.off2 hdd (fun xs z => by unfold dN at z; cases z)
        exact ((k1.trans k2).trans k3) _ _ hdd n1 n2
      have hd5 : L2.upd H4 l (.lst [.ref p1, .ref p2, .ref p3]) d = some (dN P w d []) := by
        rw [upd_ne (ne_of_none hd4 nl)]
        exact hd4
      refine ⟨B4.new nl, kH4.trans kl, ⟨p1, p2, p3, upd_same, ⟨?_, t1, u1, up _ _ (k3.tup B3 (k2.tup B2 pt1)), qf1⟩, ⟨?_, t2, u2, up _ _ (k3.tup B3 pt2), qf2⟩, ⟨?_, 0, 1, up _ _ pt3, ⟨by decide, by decide, by decide, by decide, by decide⟩⟩⟩, ⟨[], hd5, Nd.keep (.inl hd5) (fun c xs h => up _ _ (k3.tup B3 (k2.tup B2 (k1.tup Bd h)))), Nat.le_refl _, fun _ h => nomatch h⟩, hd, kH4.free B nl lo1 lo2, lo1, lo2⟩
      · exact free kd pn1 k1 B2 pt1
      · exact free (kd.trans k1) pn2 k2 B3 pt2
      · exact free ((kd.trans k1).trans k2) pn3 k3 B4 pt3
    generalize L2.upd H4 l (.lst [.ref p1, .ref p2, .ref p3]) = H5 at *
    refine ⟨_, _, rfl, ?_⟩
    refine ⟨_, rfl, _, rfl, size, 1, rfl, rfl, b, g, n + 6, size + 1, rfl, c0.bag, by omega, by omega, Int.lt_of_le_of_lt (show size + 1 ≤ 1000 by omega) (by decide +kernel), fun r H6 r0 r1 B6 K6 => ?_⟩
    have c1 := c0.keep K6 B6
    refine ⟨r, rfl, by omega, by omega, for_range (n := r.toNat) (fun i σ H7 => ∃ y z : Option V, σ = [some (.ref b), some (.int size), some (.ref d), some (.ref l), y, z] ∧ Cv P w b g d l (n + 7 + 10 * i) H H7 i) ⟨none, none, rfl, c1⟩ ?_ ?_⟩
    · rintro i σ H7 hi ⟨y, z, rfl, c⟩
      have hi30 : i < 31 := by omega
      refine ⟨_, rfl, b, g, n + 7 + 10 * i, 3, rfl, c.bag, by omega, by decide, by decide +kernel, fun r8 H8 _ _ B8 K8 => ?_⟩
      have c8 := c.keep K8 B8
      refine ⟨r8, 0, rfl, rfl, _, rfl, ?_⟩
      obtain ⟨q1, q2, q3, f1, f2, f3, f4⟩ := c8.few
      refine ite2 (fun _ => ?_) (fun _ => ?_)
      refine ⟨_, rfl, _, rfl, b, g, l, n + 7 + 10 * i + 1, _, rfl, B8, by omega, f1, c8.lo.1, c8.lo.2, by show 0 < 3; decide, by show 3 ≤ 1000; decide, fun j v H9 hv B9 K9 => ?_⟩
      obtain ⟨q9, rfl, a9⟩ : ∃ q, v = .ref q ∧ QA H H8 q := by
        have hm := List.mem_of_getElem? hv
        simp only [List.mem_cons, List.not_mem_nil, or_false] at hm
        rcases hm with rfl | rfl | rfl
        · exact ⟨_, rfl, f2⟩
        · exact ⟨_, rfl, f3⟩
        · exact ⟨_, rfl, f4⟩
      have c9 : Cv P w b g d l (n + 7 + 10 * i + 4) H H9 i := c8.keep K9 (B9.mono (by omega))
      have a9 := a9.keep K9 B8
      rotate_left
      refine ⟨_, rfl, b, g, n + 7 + 10 * i + 1, rfl, B8, by omega, fun q9 t9 u9 H9 qf9 K9 B9 pn9 pt9 => ?_⟩
      have c9 : Cv P w b g d l (n + 7 + 10 * i + 4) H H9 i := c8.keep K9 (B9.mono (by omega))
      have a9 : QA H H9 q9 := by
        obtain ⟨n1, n2⟩ := B9.off2 pt9 (fun _ z => nomatch z)
        exact ⟨c8.kb.free B pn9 n1 n2, t9, u9, pt9, qf9⟩
      all_goals
        refine ⟨_, rfl, b, g, n + 7 + 10 * i + 4, rfl, c9.bag, by omega, fun va t10 u10 H10 cf10 K10 B10 pn10 pt10 => ?_⟩
        have c10 := c9.keep K10 B10
        have v10 : CA H H10 va := by
          obtain ⟨n1, n2⟩ := B10.off2 pt10 (fun _ z => nomatch z)
          exact ⟨c9.kb.free B pn10 n1 n2, t10, u10, pt10, cf10⟩
        have a10 := a9.keep K10 c9.bag
        refine ⟨_, rfl, _, rfl, _, rfl, b, g, n + 7 + 10 * i + 9, 4, rfl, c10.bag, by omega, by decide, by decide +kernel, fun r11 H11 r110 r111 B11 K11 => ⟨(by show 2 ≤ sizeLine; decide), fun ka nka => ?_⟩⟩
        have c11 := c10.keep K11 B11
        have v11 := v10.keep K11 B10
        have a11 := a10.keep K11 B10
        have K12 : KeptB b g H11 (L2.upd H11 ka (.tup [.ref q9, .int r11])) := KeptB.of (same_upd nka)
        have c12 := c11.keep K12 (B11.new nka)
        have v12 := v11.keep K12 B11
        have a12 := a11.keep K12 B11
        have k12 : L2.upd H11 ka (.tup [.ref q9, .int r11]) ka = some (.tup [.ref q9, .int r11]) := upd_same
        generalize L2.upd H11 ka (.tup [.ref q9, .int r11]) = H12 at *
        obtain ⟨aq, t12, u12, h12, qf12⟩ := a12
        obtain ⟨es, d1, d2, d3, d4⟩ := c12.dict
        refine ⟨d, es, (t12, u12, r11), ka, q9, va, rfl, rfl, rfl, d1, d2, by omega, k12, h12, ?_⟩
        refine ⟨_, _, rfl, ?_⟩
        have c13 := c12.store (k := (t12, u12, r11)) d1 d2 d3 (by omega) d4 k12 h12 ⟨qf12, r110, by show r11 ≤ 3; omega⟩ aq v12
        have e13 : n + 7 + 10 * (i + 1) = n + 7 + 10 * i + 10 := by omega
        rw [e13]
        exact c13
    · rintro σ H7 ⟨y, z, rfl, c⟩
      obtain ⟨es, d1, d2, d3, d4⟩ := c.dict
      have vals : ∀ e : EN, ∃ p : Int × Int, e ∈ es → H7 e.2.2 = some (.tup [.int p.1, .int p.2]) ∧ CF p.1 p.2 ∧ H e.2.2 = none := fun e => by
        by_cases he : e ∈ es
        · obtain ⟨_, ⟨h0, t1, u1, h1, h2⟩, _⟩ := d4 e he
          exact ⟨(t1, u1), fun _ => ⟨h1, h2, h0⟩⟩
        · exact ⟨(0, 0), fun z => absurd z he⟩
      obtain ⟨val, hval⟩ := Classical.axiomOfChoice vals
      have hT7 : Tabs (LT t) H7 := Nm.Tabs.keptB hT c.kb B
      refine ⟨_, rfl, d, es, val, rfl, d1, d2, hT7, fun e he => ⟨(d4 e he).1, (hval e he).1⟩, fun D H8 rs x1 x2 x3 x4 x5 x6 x7 => ?_⟩
      have fe : es.filter (fun e => decide ((val e).1 ≠ 0)) = es := List.filter_eq_self.mpr fun e he => decide_eq_true (hval e he).2.1.1
      rw [fe] at x5
      have inE : ∀ r ∈ rs, r.2 ∈ es := fun r hr' => x5.mem_iff.mp (List.mem_map.mpr ⟨r, hr', rfl⟩)
      have B8 : BagAt H8 b g (n + 500) := (c.bag.mono (by omega)).ext x1
      have nw : ∀ {a : Addr}, New H7 a → New H a := fun {a} z => New.ofB c.bag c.kb z
      refine q D H8 (rs.map fun r => (val r.2, r.2.1.2.2, r.2.1.1, r.2.1.2.1)) ⟨fun tm htm => ?_, ?_⟩ ?_ ((KT.ofB c.kb).trans (KT.of x1)) x2 B8 ?_
      · obtain ⟨r, hr', rfl⟩ := List.mem_map.mp htm
        have := inE r hr'
        exact ⟨(hval _ this).2.1, (d4 _ this).1⟩
      · rw [List.pairwise_map]
        rw [List.pairwise_map] at x6
        exact x6
      · have z := x5.length_eq
        rw [List.length_map] at z
        rw [List.length_map]
        omega
      · refine .tup (nw x3) x4 ?_
        rw [List.map_map]
        have go : ∀ rs' : List (Addr × EN), (∀ r ∈ rs', r ∈ rs) → DSs (New H) H8 (rs'.map fun r => V.ref r.1) (rs'.map (tmD ∘ fun r => (val r.2, r.2.1.2.2, r.2.1.1, r.2.1.2.1))) := by
          intro rs' sub
          induction rs' with
          | nil => exact .nil
          | cons r rs' ih =>
            have hin := inE r (sub r List.mem_cons_self)
            obtain ⟨a1, qa, a2, a3, a4⟩ := x7 r (sub r List.mem_cons_self)
            obtain ⟨b1, b2, b3⟩ := d4 _ hin
            obtain ⟨w1, _, w3⟩ := hval _ hin
            have keep : ∀ c xs, H7 c = some (.tup xs) → H8 c = some (.tup xs) := fun c xs h => x1 _ _ h (fun _ z => nomatch z)
            refine .cons (.tup (nw a1) a2 (.cons (.tup (New.none w3) (keep _ _ w1) (.cons (.int _) (.cons (.int _) .nil))) (.cons (.int _) (.cons (.tup (New.none (b3 _ _ a3)) (keep _ _ a4) (.cons (.int _) (.cons (.int _) .nil))) .nil)))) (ih fun r hr' => sub r (List.mem_cons_of_mem _ hr'))
        exact go rs fun r h => h
end
end Nm

/-! Things of any kind, and the law's own judging of them: _law_is_int, _law_is_fraction, _law_is_term, _law_is_behind. -/
namespace Nm
open PySem PySem.Spec PyProof.Rows L2 LamX
abbrev sBehind : Stmt := topS 50
/-! ### data, an empty dict too -/
def TupAt (K : PySem.W.Frag) (S : Addr → Prop) (H : Hp) (a : Addr) (xs : List V) : Prop := (S a ∧ H a = some (.tup xs)) ∨
  ∃ (o : Obj) (its : Array Value) (n : Nat), K.lookup a = some o ∧ o.cls = .type "tuple" ∧ o.data = .seq its n ∧ its.size ≤ sizeLine ∧ Vals xs its.toList
theorem TupAt.sq {K : PySem.W.Frag} {S : Addr → Prop} {H : Hp} {a : Addr} {xs : List V} (h : TupAt K S H a xs) : SqT K H a xs := h.elim (fun h => SqT.of h.2) .inr
theorem TupAt.keep {K : PySem.W.Frag} {S S' : Addr → Prop} {H H' : Hp} {a : Addr} {xs : List V} (k : ∀ a o, S a → (∀ ps, o ≠ .tbl ps) → H a = some o → S' a ∧ H' a = some o) (h : TupAt K S H a xs) : TupAt K S' H' a xs :=
  h.elim (fun h => .inl (k _ _ h.1 (fun _ z => by cases z) h.2)) .inr
theorem TupAt.ty {K : PySem.W.Frag} {S : Addr → Prop} {H : Hp} {a : Addr} {xs : List V} (h : TupAt K S H a xs) : TyX K H (.ref a) (.type "tuple") :=
  h.elim (fun h => .base (.tup h.2)) fun ⟨_, _, _, e, c, _⟩ => .kTuple e c
mutual
inductive DE (K : PySem.W.Frag) (S : Addr → Prop) (H : Hp) : V → PyData → Prop
  | non : DE K S H .non .none
  | bl (b : Bool) : DE K S H (.bl b) (.bool b)
  | int (i : Int) : DE K S H (.int i) (.int i)
  | str (x : Str) : DE K S H (.str x) (.str x)
  | lst {a : Addr} {xs : List V} {ds : List PyData} : S a → H a = some (.lst xs) → DEs K S H xs ds → DE K S H (.ref a) (.list ds)
  | tup {a : Addr} {xs : List V} {ds : List PyData} : TupAt K S H a xs → DEs K S H xs ds → DE K S H (.ref a) (.tuple ds)
  | dic {a : Addr} : S a → H a = some (.dK []) → DE K S H (.ref a) (.dict [])
inductive DEs (K : PySem.W.Frag) (S : Addr → Prop) (H : Hp) : List V → List PyData → Prop
  | nil : DEs K S H [] []
  | cons {v : V} {vs : List V} {d : PyData} {ds : List PyData} : DE K S H v d → DEs K S H vs ds → DEs K S H (v :: vs) (d :: ds)
end
section
variable {S S' : Addr → Prop} {H H' : Hp} {K : PySem.W.Frag}
theorem ntL {xs : List V} : ∀ ps, HO.lst xs ≠ .tbl ps := fun _ z => by cases z
theorem ntT {xs : List V} : ∀ ps, HO.tup xs ≠ .tbl ps := fun _ z => by cases z
theorem ntD {kvs : List (Key × V)} : ∀ ps, HO.dK kvs ≠ .tbl ps := fun _ z => by cases z
mutual
theorem DE.keep (k : ∀ a o, S a → (∀ ps, o ≠ .tbl ps) → H a = some o → S' a ∧ H' a = some o) : ∀ {v : V} {d : PyData}, DE K S H v d → DE K S' H' v d
  | _, _, .non => .non
  | _, _, .bl b => .bl b
  | _, _, .int i => .int i
  | _, _, .str x => .str x
  | _, _, .lst s h r => .lst (k _ _ s ntL h).1 (k _ _ s ntL h).2 (DEs.keep k r)
  | _, _, .tup h r => .tup (h.keep k) (DEs.keep k r)
  | _, _, .dic s h => .dic (k _ _ s ntD h).1 (k _ _ s ntD h).2
theorem DEs.keep (k : ∀ a o, S a → (∀ ps, o ≠ .tbl ps) → H a = some o → S' a ∧ H' a = some o) : ∀ {vs : List V} {ds : List PyData}, DEs K S H vs ds → DEs K S' H' vs ds
  | _, _, .nil => .nil
  | _, _, .cons x r => .cons (DE.keep k x) (DEs.keep k r)
end
mutual
theorem DS.toE : ∀ {v : V} {d : PyData}, DS S H v d → DE K S H v d
  | _, _, .non => .non
  | _, _, .bl b => .bl b
  | _, _, .int i => .int i
  | _, _, .str x => .str x
  | _, _, .lst s h r => .lst s h (DSs.toE r)
  | _, _, .tup s h r => .tup (.inl ⟨s, h⟩) (DSs.toE r)
theorem DSs.toE : ∀ {vs : List V} {ds : List PyData}, DSs S H vs ds → DEs K S H vs ds
  | _, _, .nil => .nil
  | _, _, .cons x r => .cons (DS.toE x) (DSs.toE r)
end
theorem DE.same {v : V} {d : PyData} (e : Same H H') (x : DE K S H v d) : DE K S H' v d := DE.keep (fun a o s _ h => ⟨s, e _ _ h⟩) x
theorem DEs.same {vs : List V} {ds : List PyData} (e : Same H H') (x : DEs K S H vs ds) : DEs K S H' vs ds := DEs.keep (fun a o s _ h => ⟨s, e _ _ h⟩) x
theorem DEs.len : ∀ {vs : List V} {ds : List PyData}, DEs K S H vs ds → vs.length = ds.length
  | _, _, .nil => rfl
  | _, _, .cons _ r => by rw [List.length_cons, List.length_cons, DEs.len r]
theorem DEs.at : ∀ {vs : List V} {ds : List PyData} {i : Nat} {x : V}, DEs K S H vs ds → vs[i]? = some x → ∃ d, ds[i]? = some d ∧ DE K S H x d
  | _, _, _, _, .nil, h => by simp at h
  | _, _, 0, _, .cons r _, h => by
    obtain rfl := Option.some.inj h
    exact ⟨_, rfl, r⟩
  | _, _, i + 1, _, .cons _ r, h => by
    obtain ⟨d, h1, h2⟩ := DEs.at (i := i) r (by simpa using h)
    exact ⟨d, by simpa using h1, h2⟩
theorem de_ty {x : V} {d : PyData} (h : DE K S H x d) : TyX K H x (.type (tyN d)) := by
  cases h with
  | non => exact .base .non
  | bl b => exact .base (.bl b)
  | int i => exact .base (.int i)
  | str x => exact .base (.str x)
  | lst _ h _ => exact .base (.lst h)
  | tup h _ => exact h.ty
  | dic _ h => exact .base (.dK h)
end
def isI : PyData → Bool | .int _ => true | .bool _ => true | _ => false
theorem kit_i {K : PySem.W.Frag} (d : PyData) : PySem.W.kitOne K (.type (tyN d)) (.type "int") = some (isI d) := by
  cases d
  · exact kit_ty (show kitB "NoneType" "int" = some false by decide +kernel)
  · exact kit_ty (show kitB "bool" "int" = some true by decide +kernel)
  · exact kit_ty (show kitB "int" "int" = some true by decide +kernel)
  · exact kit_ty (show kitB "str" "int" = some false by decide +kernel)
  · exact kit_ty (show kitB "list" "int" = some false by decide +kernel)
  · exact kit_ty (show kitB "tuple" "int" = some false by decide +kernel)
  · exact kit_ty (show kitB "dict" "int" = some false by decide +kernel)
/-! ### the judge -/
def inD (lo hi : Int) : PyData → Bool | .int i => decide (lo ≤ i ∧ i ≤ hi) | _ => false
def pairD : PyData → Option (Int × Int) | .tuple [.int a, .int b] => if 0 < b ∧ Int.gcd a b = 1 then some (a, b) else none | _ => none
mutual
def bdD : PyData → Bool
  | .int i => decide (-(10 ^ 60) ≤ i ∧ i ≤ 10 ^ 60)
  | .tuple xs => bdDs xs
  | .list xs => bdDs xs
  | _ => true
def bdDs : List PyData → Bool
  | [] => true
  | x :: xs => bdD x && bdDs xs
end
theorem bdDs_all : ∀ {xs : List PyData}, bdDs xs = true → ∀ d ∈ xs, bdD d = true
  | [], _, d, h => nomatch h
  | x :: xs, h1, d, h => by
    obtain ⟨a, b⟩ := Bool.and_eq_true_iff.mp (show (bdD x && bdDs xs) = true from h1)
    rcases List.mem_cons.mp h with rfl | h
    · exact a
    · exact bdDs_all b d h
theorem bdD_int {i : Int} (h : bdD (.int i) = true) : -(10 ^ 60) ≤ i ∧ i ≤ 10 ^ 60 := of_decide_eq_true h
structure JudT (mg : Str → Option Value) : Prop where
  isi : mg "isinstance" = none
  int : mg "int" = none
  bool : mg "bool" = none
  tup : mg "tuple" = none
  len : mg "len" = none
  all : mg "all" = none
  abs : mg "abs" = none
  enum : mg "enumerate" = none
section
variable {P : Program} {w : World} {K : PySem.W.Frag} {mg : Str → Option Value} {base : Heap}
/-! ### _law_is_fraction -/
theorem pairD_no {d : PyData} (h : ∀ a b, d ≠ .tuple [.int a, .int b]) : pairD d = none := by
  unfold pairD
  split
  · rename_i a b
    exact absurd rfl (h a b)
  · rfl
def intB : PyData → Bool | .int _ => true | _ => false
theorem inB {d : PyData} (h : bdD d = true) : inD (-(10 ^ (60 : Int).toNat)) (10 ^ (60 : Int).toNat) d = intB d := by
  cases d with
  | int i =>
    have z := bdD_int h
    show decide (-(10 ^ (60 : Int).toNat) ≤ i ∧ i ≤ 10 ^ (60 : Int).toNat) = true
    exact decide_eq_true z
  | _ => rfl
theorem intB_int {d : PyData} (h : intB d = true) : ∃ i, d = .int i := by
  cases d with
  | int i => exact ⟨i, rfl⟩
  | _ => cases h
theorem bdT {ds : List PyData} (h : bdD (.tuple ds) = true) : ∀ d ∈ ds, bdD d = true := bdDs_all h
/-! ### _law_is_term -/
theorem pairD_some {d : PyData} {p : Int × Int} (h : pairD d = some p) : d = .tuple [.int p.1, .int p.2] ∧ 0 < p.2 ∧ Int.gcd p.1 p.2 = 1 := by
  unfold pairD at h
  split at h
  · rename_i a b
    split at h
    · rename_i c
      obtain rfl := Option.some.inj h
      exact ⟨rfl, c.1, c.2⟩
    · cases h
  · cases h
def tm3 (k : Int) : Option (Int × Int) → Option (Int × Int) → Option Tm
  | some c', some q' => if c'.1 ≠ 0 ∧ (0 ≤ k ∧ k ≤ 3) ∧ q'.2 ≤ 4 ∧ (if q'.1 < 0 then -q'.1 else q'.1) ≤ 4 * q'.2 then some (c', k, q') else none
  | _, _ => none
def tmOf : PyData → Option Tm
  | .tuple [c, .int k, q] => tm3 k (pairD c) (pairD q)
  | _ => none
theorem tmOf_no {d : PyData} (h : ∀ c k q, d ≠ .tuple [c, .int k, q]) : tmOf d = none := by
  unfold tmOf
  split
  · rename_i c k q
    exact absurd rfl (h c k q)
  · rfl
theorem tmOf_no1 {c k q : PyData} (h : pairD c = none) : tmOf (.tuple [c, k, q]) = none := by
  cases k with
  | int k =>
    show tm3 k (pairD c) (pairD q) = none
    rw [h]
    rfl
  | _ => rfl
theorem tmOf_no3 {c k q : PyData} (h : pairD q = none) : tmOf (.tuple [c, k, q]) = none := by
  cases k with
  | int k =>
    show tm3 k (pairD c) (pairD q) = none
    rw [h]
    cases pairD c <;> rfl
  | _ => rfl
theorem tmOf_at {c q : PyData} {k : Int} {c' q' : Int × Int} (h1 : pairD c = some c') (h2 : pairD q = some q') : tmOf (.tuple [c, .int k, q]) = if c'.1 ≠ 0 ∧ (0 ≤ k ∧ k ≤ 3) ∧ q'.2 ≤ 4 ∧ (if q'.1 < 0 then -q'.1 else q'.1) ≤ 4 * q'.2 then some (c', k, q') else none := by
  show tm3 k (pairD c) (pairD q) = _
  rw [h1, h2]
  rfl
theorem de_pair {S : Addr → Prop} {H : Hp} {x : V} {d : PyData} {p : Int × Int} (h : DE K S H x d) (e : pairD d = some p) : ∃ a, x = .ref a ∧ SqT K H a [.int p.1, .int p.2] := by
  obtain ⟨rfl, _⟩ := pairD_some e
  cases h with
  | @tup a xs _ ha hx =>
  cases hx with
  | cons r1 r2 =>
  cases r2 with
  | cons r2 r3 =>
  cases r1
  cases r2
  cases r3
  exact ⟨a, rfl, ha.sq⟩
end
end Nm

/-! _law_less, _law_is_behind, _law_due. -/
namespace Nm
open PySem PySem.Spec PyProof.Rows L2 LamX
theorem tmOf_some {d : PyData} {p : Tm} (h : tmOf d = some p) : ∃ c q, d = .tuple [c, .int p.2.1, q] ∧ pairD c = some p.1 ∧ pairD q = some p.2.2 ∧ p.1.1 ≠ 0 ∧ (0 ≤ p.2.1 ∧ p.2.1 ≤ 3) ∧ p.2.2.2 ≤ 4 ∧ (if p.2.2.1 < 0 then -p.2.2.1 else p.2.2.1) ≤ 4 * p.2.2.2 := by
  unfold tmOf at h
  split at h
  · rename_i c k q
    cases e1 : pairD c with
    | none => rw [e1] at h; cases h
    | some c' =>
      cases e2 : pairD q with
      | none => rw [e1, e2] at h; cases h
      | some q' =>
        rw [e1, e2] at h
        unfold tm3 at h
        dsimp only at h
        by_cases y : c'.1 ≠ 0 ∧ (0 ≤ k ∧ k ≤ 3) ∧ q'.2 ≤ 4 ∧ (if q'.1 < 0 then -q'.1 else q'.1) ≤ 4 * q'.2
        · rw [if_pos y] at h
          obtain rfl := Option.some.inj h
          exact ⟨c, q, rfl, e1, e2, y⟩
        · rw [if_neg y] at h
          cases h
  · cases h
section
variable {P : Program} {w : World} {K : PySem.W.Frag} {mg : Str → Option Value} {base : Heap}
theorem de_term {S : Addr → Prop} {H : Hp} {x : V} {d : PyData} {p : Tm} (h : DE K S H x d) (e : tmOf d = some p) : ∃ a a1 a3, x = .ref a ∧ SqT K H a [.ref a1, .int p.2.1, .ref a3] ∧ SqT K H a1 [.int p.1.1, .int p.1.2] ∧ SqT K H a3 [.int p.2.2.1, .int p.2.2.2] := by
  obtain ⟨c, q, rfl, e1, e2, _⟩ := tmOf_some e
  cases h with
  | @tup a xs _ ha hx =>
  cases hx with
  | cons r1 r =>
  cases r with
  | cons r2 r =>
  cases r with
  | cons r3 r =>
  cases r2
  cases r
  obtain ⟨a1, rfl, k1⟩ := de_pair r1 e1
  obtain ⟨a3, rfl, k3⟩ := de_pair r3 e2
  exact ⟨a, a1, a3, rfl, ha.sq, k1, k3⟩
/-! ### _law_less -/
def spLess (K : PySem.W.Frag) : Sp := fun vs H Q _ => ∃ (a b : Addr) (t u t' u' : Int), vs = [.ref a, .ref b] ∧ SqT K H a [.int t, .int u] ∧ SqT K H b [.int t', .int u'] ∧ CMul t u' ∧ CMul t' u ∧ Q (.bl (decide (t * u' < t' * u))) H
theorem scLess : FnScope ["_law_one", "_law_other"] ["_law_one", "_law_other"] (defScope sLess) := ⟨rfl, rfl, rfl, by decide +kernel, rfl, by decide +kernel, by decide +kernel⟩
theorem ok_less {f : Addr} {fd : FuncData} {k : Nat} (F : Fun K "_law_less" "_law_less" sLess f fd) : FnOk P w K mg base CX0 (k + 1) f fd ["_law_one", "_law_other"] (spLess K) := by
  refine F.ok scLess (fun vs H Q E h => ?_) (fun cdv A outer s H vs Q E hr h => ?_)
  · obtain ⟨a, b, t, u, t', u', rfl, _⟩ := h
    rfl
  · obtain ⟨a, b, t, u, t', u', rfl, ha, hb, c1, c2, q⟩ := h
    refine ⟨_, pss_one (ps_ret (pe_cmpR op_lt (pe_op op_mul (pe_ix ix_tup (pv 0) pe_int (fun _ _ => rfl)) (pe_ix ix_tup (pv 1) pe_int (fun _ _ => rfl))) (pe_op op_mul (pe_ix ix_tup (pv 1) pe_int (fun _ _ => rfl)) (pe_ix ix_tup (pv 0) pe_int (fun _ _ => rfl))) (nomark _))), ?_⟩
    refine ⟨_, rfl, a, _, 0, .int t, rfl, rfl, ha, rfl, _, rfl, b, _, 1, .int u', rfl, rfl, hb, rfl, t, u', rfl, rfl, c1, _, rfl, b, _, 0, .int t', rfl, rfl, hb, rfl, _, rfl, a, _, 1, .int u, rfl, rfl, ha, rfl, t', u, rfl, rfl, c2, _, _, rfl, rfl, q⟩
/-! ### _law_is_behind -/
def spBehind (K : PySem.W.Frag) : Sp := fun vs H Q _ => ∃ (x y : V) (d e : PyData) (S : Addr → Prop) (p q : Tm), vs = [x, y] ∧ DE K S H x d ∧ DE K S H y e ∧ tmOf d = some p ∧ tmOf e = some q ∧ ∀ b : Bool, (b = true ↔ ltK p.key q.key) → Q (.bl b) H
structure BhT (P : Program) (w : World) (K : PySem.W.Frag) (mg : Str → Option Value) (base : Heap) where
  fL : Addr
  fdL : FuncData
  FL : FnOk P w K mg base CX0 1 fL fdL ["_law_one", "_law_other"] (spLess K)
  bL : Binds K fdL ["_law_one", "_law_other"] []
  gL : mg "_law_less" = some (.ref fL)
  kL : PySem.W.keepIn K (.ref fL) = true
theorem scBehind : FnScope ["_law_ahead", "_law_term"] ["_law_ahead", "_law_term"] (defScope sBehind) := ⟨rfl, rfl, rfl, by decide +kernel, rfl, by decide +kernel, by decide +kernel⟩
theorem dp_pair {H : Hp} {a : Addr} {t u : Int} (h : SqT K H a [.int t, .int u]) : Dp K H (.ref a) (.tuple [.int t, .int u]) := .tup h (.cons (.int t) (.cons (.int u) .nil))
theorem eqv_pair {t u t' u' : Int} : PyData.eqv (.tuple [.int t, .int u]) (.tuple [.int t', .int u']) = true ↔ t = t' ∧ u = u' := by
  simp [PyData.eqv, PyData.eqvAll]
theorem tm_bounds {t u : Int} (h0 : 0 < u) (h4 : u ≤ 4) (h : (if t < 0 then -t else t) ≤ 4 * u) : -16 ≤ t ∧ t ≤ 16 := by
  split at h <;> omega
theorem ok_behind {f : Addr} {fd : FuncData} (F : Fun K "_law_is_behind" "_law_is_behind" sBehind f fd) (U : BhT P w K mg base) : FnOk P w K mg base CX0 2 f fd ["_law_ahead", "_law_term"] (spBehind K) := by
  refine F.ok scBehind (fun vs H Q E h => ?_) (fun cdv A outer s H vs Q E hr h => ?_)
  · obtain ⟨x, y, d, e, S, p, q, rfl, _⟩ := h
    rfl
  · obtain ⟨x, y, d, e, S, p, q, rfl, hd, he, e1, e2, qq⟩ := h
    refine ⟨_, pss_cons (ps_if (pt_cmpR (op_eqD hr.units) (pe_ix ix_tup (pv 0) pe_int (fun _ _ => rfl)) (pe_ix ix_tup (pv 1) pe_int (fun _ _ => rfl)) (nomark _))
        (pss_one (ps_ret (pe_cmpR op_lt (pe_ix ix_tup (pv 0) pe_int (fun _ _ => rfl)) (pe_ix ix_tup (pv 1) pe_int (fun _ _ => rfl)) (nomark _)))) pss_nil)
      (pss_one (ps_ret (pe_call U.FL hr (by rfl) U.gL U.kL U.bL .nil pass0 (pa_cons (pe_ix ix_tup (pv 0) pe_int (fun _ _ => rfl)) (pa_cons (pe_ix ix_tup (pv 1) pe_int (fun _ _ => rfl)) pa_nil))))), ?_⟩
    obtain ⟨a, a1, a3, rfl, k0, k1, k3⟩ := de_term hd e1
    obtain ⟨b, b1, b3, rfl, l0, l1, l3⟩ := de_term he e2
    obtain ⟨_, _, _, _, m1, _, _, m4, m5⟩ := tmOf_some e1
    obtain ⟨_, _, _, _, n1, _, _, n4, n5⟩ := tmOf_some e2
    obtain ⟨_, m6, m7⟩ := pairD_some m1
    obtain ⟨_, n6, n7⟩ := pairD_some n1
    obtain ⟨m8, m9⟩ := tm_bounds m6 m4 m5
    obtain ⟨n8, n9⟩ := tm_bounds n6 n4 n5
    refine ⟨_, rfl, a, _, 2, .ref a3, rfl, rfl, k0, rfl, _, rfl, b, _, 2, .ref b3, rfl, rfl, l0, rfl, _, _, dp_pair k3, dp_pair l3, rfl, rfl, _, rfl, ?_⟩
    refine ite2 (fun c => ?_) (fun c => ?_)
    · obtain ⟨c1, c2⟩ := eqv_pair.mp c
      refine ⟨_, rfl, a, _, 1, .int p.2.1, rfl, rfl, k0, rfl, _, rfl, b, _, 1, .int q.2.1, rfl, rfl, l0, rfl, p.2.1, q.2.1, rfl, rfl, qq _ ?_⟩
      rw [decide_eq_true_iff]
      show p.2.1 < q.2.1 ↔ p.2.2.1 * q.2.2.2 < q.2.2.1 * p.2.2.2 ∨ (p.2.2.1 * q.2.2.2 = q.2.2.1 * p.2.2.2 ∧ p.2.1 < q.2.1)
      rw [c1, c2]
      simp
    · refine ⟨_, rfl, a, _, 2, .ref a3, rfl, rfl, k0, rfl, _, rfl, b, _, 2, .ref b3, rfl, rfl, l0, rfl, a3, b3, _, _, _, _, rfl, k3, l3, .inl ⟨by omega, by omega⟩, .inl ⟨by omega, by omega⟩, qq _ ?_⟩
      rw [decide_eq_true_iff]
      show p.2.2.1 * q.2.2.2 < q.2.2.1 * p.2.2.2 ↔ p.2.2.1 * q.2.2.2 < q.2.2.1 * p.2.2.2 ∨ (p.2.2.1 * q.2.2.2 = q.2.2.1 * p.2.2.2 ∧ p.2.1 < q.2.1)
      refine ⟨.inl, fun h => h.elim id fun h => ?_⟩
      exact absurd (eqv_pair.mpr (low_eq h.1 m7 n7 m6 n6)) c
/-! ### _law_due -/
def okBehind (prev : Option Tm) (t : Tm) : Prop := ∀ p, prev = some p → ltK p.key t.key
open Classical in
noncomputable def dueGo : Option Tm → Nat → List PyData → Option Nat
  | _, _, [] => none
  | prev, i, d :: ds => match tmOf d with | none => some i | some t => if okBehind prev t then dueGo (some t) (i + 1) ds else some i
/-- none: these are a curve's terms; else the index of what is wrong first -/
noncomputable def dueOf : PyData → Option Int
  | .tuple ds => if 8 < ds.length then some (-1) else (dueGo none 0 ds).map fun i : Nat => (i : Int)
  | _ => some (-1)
def told : Str := "told"
theorem dueGo_step {ds : List PyData} {i : Nat} {d : PyData} (h : ds[i]? = some d) : ds.drop i = d :: ds.drop (i + 1) := by
  have hlt := (List.getElem?_eq_some_iff.mp h).1
  rw [List.drop_eq_getElem_cons hlt]
  congr 1
  exact (List.getElem?_eq_some_iff.mp h).2
end
end Nm

/-! The program's own judging: is_integer, is_number, is_fraction, less, is_rate, is_term, stands_behind. -/
namespace Nm
open PySem PySem.Spec PyProof.Rows L2 LamX
abbrev pInteger : Stmt := topS 8
abbrev pNumber : Stmt := topS 9
abbrev pFraction : Stmt := topS 10
abbrev pLess : Stmt := topS 12
abbrev pTerm : Stmt := topS 20
abbrev pRate : Stmt := topS 21
abbrev pBehind : Stmt := topS 22
section
variable {P : Program} {w : World} {K : PySem.W.Frag} {mg : Str → Option Value} {base : Heap}
def spInteger (K : PySem.W.Frag) : Sp := fun vs H Q _ => ∃ (x : V) (d : PyData) (S : Addr → Prop), vs = [x] ∧ DE K S H x d ∧ Q (.bl (intB d)) H
theorem scInteger : FnScope ["thing"] ["thing"] (defScope pInteger) := ⟨rfl, rfl, rfl, by decide +kernel, rfl, by decide +kernel, by decide +kernel⟩
theorem ok_integer {f : Addr} {fd : FuncData} {k : Nat} (F : Fun K "is_integer" "is_integer" pInteger f fd) (T : JudT mg) : FnOk P w K mg base CX0 (k + 1) f fd ["thing"] (spInteger K) := by
  refine F.ok scInteger (fun vs H Q E h => ?_) (fun cdv A outer s H vs Q E hr h => ?_)
  · obtain ⟨x, d, S, rfl, _⟩ := h
    rfl
  · obtain ⟨x, d, S, rfl, hd, q⟩ := h
    refine ⟨_, pss_one (ps_ret (pe_and (pe_callB call_isi (by rfl) T.isi (by decide +kernel) (pa_cons (pv 0) (pa_cons (pe_bltn (v := .ty "int") (by rfl) T.int (by decide +kernel) rfl) pa_nil)))
      (pe_one (pe_not (pe_callB call_isi (by rfl) T.isi (by decide +kernel) (pa_cons (pv 0) (pa_cons (pe_bltn (v := .ty "bool") (by rfl) T.bool (by decide +kernel) rfl) pa_nil))))))), ?_⟩
    refine ⟨_, rfl, _, _, _, _, _, rfl, .ty "int", de_ty hd, kit_i d, _, rfl, ?_⟩
    have fin : ∀ b : Bool, intB d = b → Q (.bl b) H := fun b e => by rw [← e]; exact q
    cases hd with
    | int i =>
      refine iteT ?_
      exact ⟨_, rfl, _, _, _, _, _, rfl, .ty "bool", de_ty (.int i : DE K S H _ _), kit_b (.int i), _, rfl, fin _ rfl⟩
    | bl b =>
      refine iteT ?_
      exact ⟨_, rfl, _, _, _, _, _, rfl, .ty "bool", de_ty (.bl b : DE K S H _ _), kit_b (.bool b), _, rfl, fin _ rfl⟩
    | non => exact iteF (fin _ rfl)
    | str x => exact iteF (fin _ rfl)
    | lst _ _ _ => exact iteF (fin _ rfl)
    | tup _ _ => exact iteF (fin _ rfl)
    | dic _ _ => exact iteF (fin _ rfl)
structure IntT (P : Program) (w : World) (K : PySem.W.Frag) (mg : Str → Option Value) (base : Heap) where
  fI : Addr
  fdI : FuncData
  FI : FnOk P w K mg base CX0 1 fI fdI ["thing"] (spInteger K)
  bI : Binds K fdI ["thing"] []
  gI : mg "is_integer" = some (.ref fI)
  kI : PySem.W.keepIn K (.ref fI) = true
  gcd : mg "gcd" = some (.builtin "math.gcd")
def numB : PyData → Bool | .int i => decide (0 ≤ i) | _ => false
def spNumber (K : PySem.W.Frag) : Sp := fun vs H Q _ => ∃ (x : V) (d : PyData) (S : Addr → Prop), vs = [x] ∧ DE K S H x d ∧ Q (.bl (numB d)) H
theorem scNumber : FnScope ["thing"] ["thing"] (defScope pNumber) := ⟨rfl, rfl, rfl, by decide +kernel, rfl, by decide +kernel, by decide +kernel⟩
theorem ok_number {f : Addr} {fd : FuncData} (F : Fun K "is_number" "is_number" pNumber f fd) (U : IntT P w K mg base) : FnOk P w K mg base CX0 2 f fd ["thing"] (spNumber K) := by
  refine F.ok scNumber (fun vs H Q E h => ?_) (fun cdv A outer s H vs Q E hr h => ?_)
  · obtain ⟨x, d, S, rfl, _⟩ := h
    rfl
  · obtain ⟨x, d, S, rfl, hd, q⟩ := h
    refine ⟨_, pss_one (ps_ret (pe_and (pe_call U.FI hr (by rfl) U.gI U.kI U.bI .nil pass0 (pa_cons (pv 0) pa_nil)) (pe_one (pe_cmpR op_ge (pv 0) pe_int (nomark _))))), ?_⟩
    have fin : ∀ b : Bool, numB d = b → Q (.bl b) H := fun b e => by rw [← e]; exact q
    refine ⟨_, rfl, x, d, S, rfl, hd, _, rfl, ?_⟩
    cases hd with
    | int i =>
      refine iteT ?_
      exact ⟨_, rfl, i, 0, rfl, rfl, fin _ rfl⟩
    | bl b => exact iteF (fin _ rfl)
    | non => exact iteF (fin _ rfl)
    | str x => exact iteF (fin _ rfl)
    | lst _ _ _ => exact iteF (fin _ rfl)
    | tup _ _ => exact iteF (fin _ rfl)
    | dic _ _ => exact iteF (fin _ rfl)
/-! ### is_fraction -/
def spFraction (K : PySem.W.Frag) : Sp := fun vs H Q _ => ∃ (x : V) (d : PyData) (S : Addr → Prop), vs = [x] ∧ DE K S H x d ∧ Q (.bl (pairD d).isSome) H
theorem scFraction : FnScope ["thing", "top", "bottom"] ["thing"] (defScope pFraction) := ⟨rfl, rfl, rfl, by decide +kernel, rfl, by decide +kernel, by decide +kernel⟩
theorem ok_fraction {f : Addr} {fd : FuncData} (F : Fun K "is_fraction" "is_fraction" pFraction f fd) (T : JudT mg) (U : IntT P w K mg base) : FnOk P w K mg base CX0 2 f fd ["thing"] (spFraction K) := by
  refine F.ok scFraction (fun vs H Q E h => ?_) (fun cdv A outer s H vs Q E hr h => ?_)
  · obtain ⟨x, d, S, rfl, _⟩ := h
    rfl
  · obtain ⟨x, d, S, rfl, hd, q⟩ := h
    refine ⟨_, pss_cons (ps_if (PW.pt (pw_or (pt_not (pt_val (pe_callB call_isi (by rfl) T.isi (by decide +kernel) (pa_cons (pv 0) (pa_cons (pe_bltn (v := .ty "tuple") (by rfl) T.tup (by decide +kernel) rfl) pa_nil)))))
          (pw_or1 (pt_cmpR op_ne (pe_callB call_len_seq (by rfl) T.len PySem.boot_len (pa_cons (pv 0) pa_nil)) pe_int (nomark _))))) (pss_one (ps_ret pe_bl)) pss_nil)
      (pss_cons (ps_asg (pv 0) (pg_tup (by rfl) (pgs_cons (pg_name (i := 1) scFraction.nd rfl (.inl rfl)) (pgs_cons (pg_name (i := 2) scFraction.nd rfl (.inl rfl)) pgs_nil))))
      (pss_cons (ps_if (PW.pt (pw_or (pt_not (pt_val (pe_call U.FI hr (by rfl) U.gI U.kI U.bI .nil pass0 (pa_cons (pv 1) pa_nil)))) (pw_or1 (pt_not (pt_val (pe_call U.FI hr (by rfl) U.gI U.kI U.bI .nil pass0 (pa_cons (pv 2) pa_nil))))))) (pss_one (ps_ret pe_bl)) pss_nil)
      (pss_one (ps_ret (pe_and (pe_cmpR op_gt (pv 2) pe_int (nomark _)) (pe_one (pe_cmpR op_eq (pe_callBfun cr_gcd (by rfl) U.gcd (pa_cons (pv 1) (pa_cons (pv 2) pa_nil))) pe_int (nomark _)))))))), ?_⟩
    have fin : ∀ b : Bool, (pairD d).isSome = b → Q (.bl b) H := fun b e => by rw [← e]; exact q
    refine ⟨_, rfl, _, _, _, _, _, rfl, .ty "tuple", de_ty hd, kit_t d, _, rfl, ?_⟩
    cases hd with
    | non => exact iteT (fin _ rfl)
    | bl b => exact iteT (fin _ rfl)
    | int i => exact iteT (fin _ rfl)
    | str x => exact iteT (fin _ rfl)
    | lst _ _ _ => exact iteT (fin _ rfl)
    | dic _ _ => exact iteT (fin _ rfl)
    | @tup a xs ds ha hx =>
      refine iteF ?_
      refine ⟨_, rfl, a, xs, rfl, .inr (ha.sq), rfl, _, rfl, ?_⟩
      have hl := hx.len
      refine ite2 (fun c => fin _ ?_) (fun c => ?_)
      · refine congrArg Option.isSome (pairD_no fun a b z => ?_)
        have z : ds = [.int a, .int b] := by injection z
        rw [z] at hl
        have hl : xs.length = 2 := hl
        rw [hl] at c
        exact absurd c (by decide)
      · have h2 : xs.length = 2 := by
          by_cases z : xs.length = 2
          · exact z
          · exact absurd (by simp; omega) c
        have l2 : ds.length = 2 := by omega
        obtain ⟨d1, d2, rfl⟩ : ∃ d1 d2, ds = [d1, d2] := by
          match ds, l2 with
          | [d1, d2], _ => exact ⟨d1, d2, rfl⟩
        obtain ⟨x1, x2, rfl⟩ : ∃ x1 x2, xs = [x1, x2] := by
          match xs, h2 with
          | [x1, x2], _ => exact ⟨x1, x2, rfl⟩
        obtain ⟨r1, r2⟩ : DE K S H x1 d1 ∧ DE K S H x2 d2 := by
          cases hx with
          | cons r1 r =>
          cases r with
          | cons r2 r => exact ⟨r1, r2⟩
        refine ⟨_, rfl, a, _, rfl, ha.sq, rfl, _, _, rfl, _, _, rfl, rfl, ?_⟩
        have no : (intB d1 && intB d2) = false → (pairD (.tuple [d1, d2])).isSome = false := fun c2 => by
          refine congrArg Option.isSome (pairD_no fun a b z => ?_)
          have z : [d1, d2] = [.int a, .int b] := by injection z
          injection z with z1 z2
          injection z2 with z2
          rw [z1, z2] at c2
          cases c2
        refine ⟨_, rfl, x1, d1, S, rfl, r1, _, rfl, ?_⟩
        refine ite2 (fun c2 => fin _ (no (by simp at c2; simp [c2]))) (fun c2 => ?_)
        refine ⟨_, rfl, x2, d2, S, rfl, r2, _, rfl, ?_⟩
        refine ite2 (fun c3 => fin _ (no (by simp at c3; simp [c3]))) (fun c3 => ?_)
        obtain ⟨i1, rfl⟩ := intB_int (d := d1) (by simpa using c2)
        obtain ⟨i2, rfl⟩ := intB_int (d := d2) (by simpa using c3)
        cases r1
        cases r2
        refine ⟨_, rfl, i2, 0, rfl, rfl, _, rfl, ?_⟩
        refine ite2 (fun c6 => ?_) (fun c6 => ?_)
        · have c6 : 0 < i2 := of_decide_eq_true c6
          refine ⟨_, rfl, _, rfl, i1, i2, rfl, rfl, fin _ ?_⟩
          show Option.isSome (if 0 < i2 ∧ Int.gcd i1 i2 = 1 then some (i1, i2) else none) = decide (V.int (Int.gcd i1 i2 : Int) = V.int 1)
          by_cases g : Int.gcd i1 i2 = 1
          · simp [c6, g]
          · have : ¬ ((Int.gcd i1 i2 : Int) = 1) := by omega
            simp [g, this]
        · have c6 : ¬ 0 < i2 := fun z => c6 (decide_eq_true z)
          refine fin _ ?_
          show Option.isSome (if 0 < i2 ∧ Int.gcd i1 i2 = 1 then some (i1, i2) else none) = false
          simp [c6]
/-! ### less -/
theorem scPLess : FnScope ["one", "other"] ["one", "other"] (defScope pLess) := ⟨rfl, rfl, rfl, by decide +kernel, rfl, by decide +kernel, by decide +kernel⟩
theorem ok_pless {f : Addr} {fd : FuncData} {k : Nat} (F : Fun K "less" "less" pLess f fd) : FnOk P w K mg base CX0 (k + 1) f fd ["one", "other"] (spLess K) := by
  refine F.ok scPLess (fun vs H Q E h => ?_) (fun cdv A outer s H vs Q E hr h => ?_)
  · obtain ⟨a, b, t, u, t', u', rfl, _⟩ := h
    rfl
  · obtain ⟨a, b, t, u, t', u', rfl, ha, hb, c1, c2, q⟩ := h
    refine ⟨_, pss_one (ps_ret (pe_cmpR op_lt (pe_op op_mul (pe_ix ix_tup (pv 0) pe_int (fun _ _ => rfl)) (pe_ix ix_tup (pv 1) pe_int (fun _ _ => rfl))) (pe_op op_mul (pe_ix ix_tup (pv 1) pe_int (fun _ _ => rfl)) (pe_ix ix_tup (pv 0) pe_int (fun _ _ => rfl))) (nomark _))), ?_⟩
    refine ⟨_, rfl, a, _, 0, .int t, rfl, rfl, ha, rfl, _, rfl, b, _, 1, .int u', rfl, rfl, hb, rfl, t, u', rfl, rfl, c1, _, rfl, b, _, 0, .int t', rfl, rfl, hb, rfl, _, rfl, a, _, 1, .int u, rfl, rfl, ha, rfl, t', u, rfl, rfl, c2, _, _, rfl, rfl, q⟩
/-! ### is_rate -/
structure PjT (P : Program) (w : World) (K : PySem.W.Frag) (mg : Str → Option Value) (base : Heap) where
  fF : Addr
  fdF : FuncData
  fN : Addr
  fdN : FuncData
  fL : Addr
  fdL : FuncData
  nil : Addr
  FF : FnOk P w K mg base CX0 2 fF fdF ["thing"] (spFraction K)
  FN : FnOk P w K mg base CX0 2 fN fdN ["thing"] (spNumber K)
  FL : FnOk P w K mg base CX0 1 fL fdL ["one", "other"] (spLess K)
  bF : Binds K fdF ["thing"] []
  bN : Binds K fdN ["thing"] []
  bL : Binds K fdL ["one", "other"] []
  gF : mg "is_fraction" = some (.ref fF)
  gN : mg "is_number" = some (.ref fN)
  gL : mg "less" = some (.ref fL)
  kF : PySem.W.keepIn K (.ref fF) = true
  kN : PySem.W.keepIn K (.ref fN) = true
  kL : PySem.W.keepIn K (.ref fL) = true
  gNil : mg "NIL" = some (.ref nil)
  dNil : ∀ H : Hp, Dp K H (.ref nil) (.tuple [.int 0, .int 1])
  mT : ∃ t, mg "MOST_TERMS" = some (.int 8 t)
  mP : ∃ t, mg "MOST_POWER" = some (.int 3 t)
  mR : ∃ t, mg "MOST_RATE" = some (.int 4 t)
  mB : ∃ t, mg "MOST_BOTTOM" = some (.int 4 t)
def rateB (d : PyData) : Bool := match pairD d with | some q => decide (q.2 ≤ 4) && decide ((if q.1 < 0 then -q.1 else q.1) ≤ 4 * q.2) | none => false
def spRate (K : PySem.W.Frag) : Sp := fun vs H Q _ => ∃ (x : V) (d : PyData) (S : Addr → Prop), vs = [x] ∧ DE K S H x d ∧ Q (.bl (rateB d)) H
theorem scRate : FnScope ["thing", "top", "bottom"] ["thing"] (defScope pRate) := ⟨rfl, rfl, rfl, by decide +kernel, rfl, by decide +kernel, by decide +kernel⟩
theorem ok_rate {f : Addr} {fd : FuncData} (F : Fun K "is_rate" "is_rate" pRate f fd) (T : JudT mg) (U : PjT P w K mg base) : FnOk P w K mg base CX0 3 f fd ["thing"] (spRate K) := by
  refine F.ok scRate (fun vs H Q E h => ?_) (fun cdv A outer s H vs Q E hr h => ?_)
  · obtain ⟨x, d, S, rfl, _⟩ := h
    rfl
  · obtain ⟨x, d, S, rfl, hd, q⟩ := h
    obtain ⟨t1, mR⟩ := U.mR
    obtain ⟨t2, mB⟩ := U.mB
    refine ⟨_, pss_cons (ps_if (pt_not (pt_val (pe_call U.FF hr (by rfl) U.gF U.kF U.bF .nil pass0 (pa_cons (pv 0) pa_nil)))) (pss_one (ps_ret pe_bl)) pss_nil)
      (pss_cons (ps_asg (pv 0) (pg_tup (by rfl) (pgs_cons (pg_name (i := 1) scRate.nd rfl (.inl rfl)) (pgs_cons (pg_name (i := 2) scRate.nd rfl (.inl rfl)) pgs_nil))))
      (pss_one (ps_ret (pe_and (pe_cmpR op_le (pv 2) (pe_glob (v := .int 4) (by rfl) mB ⟨_, rfl⟩) (nomark _)) (pe_one (pe_cmpR op_le (pe_callB call_abs (by rfl) T.abs (by decide +kernel) (pa_cons (pv 1) pa_nil)) (pe_op op_mul (pe_glob (v := .int 4) (by rfl) mR ⟨_, rfl⟩) (pv 2)) (nomark _))))))), ?_⟩
    have fin : ∀ b : Bool, rateB d = b → Q (.bl b) H := fun b e => by rw [← e]; exact q
    refine ⟨_, rfl, x, d, S, rfl, hd, _, rfl, ?_⟩
    cases e : pairD d with
    | none => exact iteT (fin _ (by unfold rateB; rw [e]))
    | some p =>
      refine iteF ?_
      obtain ⟨a, rfl, k⟩ := de_pair hd e
      refine ⟨_, rfl, a, _, rfl, k, rfl, _, _, rfl, _, _, rfl, rfl, ?_⟩
      have er : rateB d = (decide (p.2 ≤ 4) && decide ((if p.1 < 0 then -p.1 else p.1) ≤ 4 * p.2)) := by unfold rateB; rw [e]
      refine ⟨_, rfl, p.2, 4, rfl, rfl, _, rfl, ?_⟩
      refine ite2 (fun c => ?_) (fun c => fin _ ?_)
      · refine ⟨_, rfl, p.1, rfl, _, rfl, 4, p.2, rfl, rfl, .inl (by decide), _, _, rfl, rfl, fin _ ?_⟩
        rw [er, c, Bool.true_and]
      · have c : decide (p.2 ≤ 4) = false := by simpa using c
        rw [er, c, Bool.false_and]
/-! ### is_term -/
def spPTerm (K : PySem.W.Frag) : Sp := fun vs H Q _ => ∃ (x : V) (d : PyData) (S : Addr → Prop), vs = [x] ∧ DE K S H x d ∧ Q (.bl (tmOf d).isSome) H
structure PkT (P : Program) (w : World) (K : PySem.W.Frag) (mg : Str → Option Value) (base : Heap) extends PjT P w K mg base where
  fR : Addr
  fdR : FuncData
  FR : FnOk P w K mg base CX0 3 fR fdR ["thing"] (spRate K)
  bR : Binds K fdR ["thing"] []
  gR : mg "is_rate" = some (.ref fR)
  kR : PySem.W.keepIn K (.ref fR) = true
theorem scPTerm : FnScope ["thing", "c", "k", "q"] ["thing"] (defScope pTerm) := ⟨rfl, rfl, rfl, by decide +kernel, rfl, by decide +kernel, by decide +kernel⟩
theorem rate_at {q : PyData} {q' : Int × Int} (h : pairD q = some q') : rateB q = (decide (q'.2 ≤ 4) && decide ((if q'.1 < 0 then -q'.1 else q'.1) ≤ 4 * q'.2)) := by unfold rateB; rw [h]
theorem rate_no {q : PyData} (h : pairD q = none) : rateB q = false := by unfold rateB; rw [h]
theorem ok_pterm {f : Addr} {fd : FuncData} (F : Fun K "is_term" "is_term" pTerm f fd) (T : JudT mg) (U : PkT P w K mg base) : FnOk P w K mg base CX0 4 f fd ["thing"] (spPTerm K) := by
  refine F.ok scPTerm (fun vs H Q E h => ?_) (fun cdv A outer s H vs Q E hr h => ?_)
  · obtain ⟨x, d, S, rfl, _⟩ := h
    rfl
  · obtain ⟨x, d, S, rfl, hd, q⟩ := h
    have hr2 : Room 2 _ := hr.mono (by decide)
    obtain ⟨t1, mP⟩ := U.mP
    refine ⟨_, pss_cons (ps_if (PW.pt (pw_or (pt_not (pt_val (pe_callB call_isi (by rfl) T.isi (by decide +kernel) (pa_cons (pv 0) (pa_cons (pe_bltn (v := .ty "tuple") (by rfl) T.tup (by decide +kernel) rfl) pa_nil)))))
          (pw_or1 (pt_cmpR op_ne (pe_callB call_len_seq (by rfl) T.len PySem.boot_len (pa_cons (pv 0) pa_nil)) pe_int (nomark _))))) (pss_one (ps_ret pe_bl)) pss_nil)
      (pss_cons (ps_asg (pv 0) (pg_tup (by rfl) (pgs_cons (pg_name (i := 1) scPTerm.nd rfl (.inl rfl)) (pgs_cons (pg_name (i := 2) scPTerm.nd rfl (.inl rfl)) (pgs_cons (pg_name (i := 3) scPTerm.nd rfl (.inl rfl)) pgs_nil)))))
      (pss_cons (ps_if (PW.pt (pw_or (pt_not (pt_val (pe_call U.FF hr2 (by rfl) U.gF U.kF U.bF .nil pass0 (pa_cons (pv 1) pa_nil)))) (pw_or1 (pt_cmpR (op_eqD hr.units) (pv 1) (pe_glob (v := .ref U.nil) (by rfl) U.gNil rfl) (nomark _))))) (pss_one (ps_ret pe_bl)) pss_nil)
      (pss_one (ps_ret (pe_and (pe_call U.FN hr2 (by rfl) U.gN U.kN U.bN .nil pass0 (pa_cons (pv 2) pa_nil)) (pe_and (pe_cmpR op_le (pv 2) (pe_glob (v := .int 3) (by rfl) mP ⟨_, rfl⟩) (nomark _)) (pe_one (pe_call U.FR hr (by rfl) U.gR U.kR U.bR .nil pass0 (pa_cons (pv 3) pa_nil))))))))), ?_⟩
    have fin : ∀ b : Bool, (tmOf d).isSome = b → Q (.bl b) H := fun b e => by rw [← e]; exact q
    refine ⟨_, rfl, _, _, _, _, _, rfl, .ty "tuple", de_ty hd, kit_t d, _, rfl, ?_⟩
    cases hd with
    | non => exact iteT (fin _ rfl)
    | bl b => exact iteT (fin _ rfl)
    | int i => exact iteT (fin _ rfl)
    | str x => exact iteT (fin _ rfl)
    | lst _ _ _ => exact iteT (fin _ rfl)
    | dic _ _ => exact iteT (fin _ rfl)
    | @tup a xs ds ha hx =>
      refine iteF ?_
      refine ⟨_, rfl, a, xs, rfl, .inr (ha.sq), rfl, _, rfl, ?_⟩
      have hl := hx.len
      refine ite2 (fun c => fin _ ?_) (fun c => ?_)
      · refine congrArg Option.isSome (tmOf_no fun a k b z => ?_)
        have z : ds = [a, .int k, b] := by injection z
        rw [z] at hl
        have hl : xs.length = 3 := hl
        rw [hl] at c
        exact absurd c (by decide)
      · have h2 : xs.length = 3 := by
          by_cases z : xs.length = 3
          · exact z
          · exact absurd (by simp; omega) c
        have l2 : ds.length = 3 := by omega
        obtain ⟨d1, d2, d3, rfl⟩ : ∃ d1 d2 d3, ds = [d1, d2, d3] := by
          match ds, l2 with
          | [d1, d2, d3], _ => exact ⟨d1, d2, d3, rfl⟩
        obtain ⟨x1, x2, x3, rfl⟩ : ∃ x1 x2 x3, xs = [x1, x2, x3] := by
          match xs, h2 with
          | [x1, x2, x3], _ => exact ⟨x1, x2, x3, rfl⟩
        obtain ⟨r1, r2, r3⟩ : DE K S H x1 d1 ∧ DE K S H x2 d2 ∧ DE K S H x3 d3 := by
          cases hx with
          | cons r1 r =>
          cases r with
          | cons r2 r =>
          cases r with
          | cons r3 r => exact ⟨r1, r2, r3⟩
        refine ⟨_, rfl, a, _, rfl, ha.sq, rfl, _, _, rfl, _, _, rfl, _, _, rfl, rfl, ?_⟩
        refine ⟨_, rfl, x1, d1, S, rfl, r1, _, rfl, ?_⟩
        cases e1 : pairD d1 with
        | none => exact iteT (fin _ (congrArg Option.isSome (tmOf_no1 e1)))
        | some c' =>
          refine iteF ?_
          obtain ⟨a1, rfl, k1⟩ := de_pair r1 e1
          obtain ⟨_, c0, cg⟩ := pairD_some e1
          refine ⟨_, rfl, _, _, dp_pair k1, U.dNil H, rfl, rfl, _, rfl, ?_⟩
          have nz : PyData.eqv (.tuple [.int c'.1, .int c'.2]) (.tuple [.int 0, .int 1]) = true ↔ c'.1 = 0 := by
            rw [eqv_pair]
            refine ⟨fun h => h.1, fun h => ⟨h, ?_⟩⟩
            rw [h, Int.gcd_zero_left] at cg
            omega
          refine ite2 (fun c1 => fin _ ?_) (fun c1 => ?_)
          · have z := nz.mp c1
            cases d2 with
            | int k =>
              cases e3 : pairD d3 with
              | none => rw [tmOf_no3 e3]; rfl
              | some q' => rw [tmOf_at e1 e3, if_neg (fun y => y.1 z)]; rfl
            | _ => rfl
          · have z : c'.1 ≠ 0 := fun z => c1 (nz.mpr z)
            refine ⟨_, rfl, x2, d2, S, rfl, r2, _, rfl, ?_⟩
            refine ite2 (fun c2 => ?_) (fun c2 => fin _ ?_)
            · obtain ⟨k, rfl⟩ : ∃ k, d2 = .int k := by
                cases d2 with
                | int k => exact ⟨k, rfl⟩
                | _ => cases c2
              have c2 : 0 ≤ k := of_decide_eq_true c2
              cases r2
              refine ⟨_, rfl, k, 3, rfl, rfl, _, rfl, ?_⟩
              refine ite2 (fun c3 => ?_) (fun c3 => fin _ ?_)
              · have c3 : k ≤ 3 := of_decide_eq_true c3
                refine ⟨_, rfl, x3, d3, S, rfl, r3, fin _ ?_⟩
                cases e3 : pairD d3 with
                | none => rw [tmOf_no3 e3, rate_no e3]; rfl
                | some q' =>
                  rw [tmOf_at e1 e3, rate_at e3]
                  by_cases g : q'.2 ≤ 4 ∧ (if q'.1 < 0 then -q'.1 else q'.1) ≤ 4 * q'.2
                  · rw [if_pos ⟨z, ⟨c2, c3⟩, g⟩, decide_eq_true g.1, decide_eq_true g.2]; rfl
                  · rw [if_neg (fun y => g y.2.2)]
                    show false = _
                    by_cases g1 : q'.2 ≤ 4
                    · rw [decide_eq_true g1, decide_eq_false (fun g2 => g ⟨g1, g2⟩)]; rfl
                    · rw [decide_eq_false g1]; rfl
              · have c3 : ¬ k ≤ 3 := fun y => c3 (decide_eq_true y)
                cases e3 : pairD d3 with
                | none => rw [tmOf_no3 e3]; rfl
                | some q' => rw [tmOf_at e1 e3, if_neg (fun y => c3 y.2.1.2)]; rfl
            · have c2 : numB d2 = false := by simpa using c2
              cases d2 with
              | int k =>
                have c2 : ¬ 0 ≤ k := of_decide_eq_false c2
                cases e3 : pairD d3 with
                | none => rw [tmOf_no3 e3]; rfl
                | some q' => rw [tmOf_at e1 e3, if_neg (fun y => c2 y.2.1.1)]; rfl
              | _ => rfl
/-! ### stands_behind -/
def spPBehind (K : PySem.W.Frag) : Sp := fun vs H Q _ => ∃ (x y : V) (d e : PyData) (S : Addr → Prop) (p q : Tm), vs = [x, y] ∧ DE K S H x d ∧ DE K S H y e ∧ tmOf d = some p ∧ tmOf e = some q ∧ ∀ b : Bool, (b = true ↔ ltK q.key p.key) → Q (.bl b) H
theorem scPBehind : FnScope ["term", "other"] ["term", "other"] (defScope pBehind) := ⟨rfl, rfl, rfl, by decide +kernel, rfl, by decide +kernel, by decide +kernel⟩
theorem ok_pbehind {f : Addr} {fd : FuncData} (F : Fun K "stands_behind" "stands_behind" pBehind f fd) (U : PjT P w K mg base) : FnOk P w K mg base CX0 2 f fd ["term", "other"] (spPBehind K) := by
  refine F.ok scPBehind (fun vs H Q E h => ?_) (fun cdv A outer s H vs Q E hr h => ?_)
  · obtain ⟨x, y, d, e, S, p, q, rfl, _⟩ := h
    rfl
  · obtain ⟨x, y, d, e, S, p, q, rfl, hd, he, e1, e2, qq⟩ := h
    refine ⟨_, pss_cons (ps_if (pt_cmpR (op_eqD hr.units) (pe_ix ix_tup (pv 0) pe_int (fun _ _ => rfl)) (pe_ix ix_tup (pv 1) pe_int (fun _ _ => rfl)) (nomark _))
        (pss_one (ps_ret (pe_cmpR op_gt (pe_ix ix_tup (pv 0) pe_int (fun _ _ => rfl)) (pe_ix ix_tup (pv 1) pe_int (fun _ _ => rfl)) (nomark _)))) pss_nil)
      (pss_one (ps_ret (pe_call U.FL hr (by rfl) U.gL U.kL U.bL .nil pass0 (pa_cons (pe_ix ix_tup (pv 1) pe_int (fun _ _ => rfl)) (pa_cons (pe_ix ix_tup (pv 0) pe_int (fun _ _ => rfl)) pa_nil))))), ?_⟩
    obtain ⟨a, a1, a3, rfl, k0, k1, k3⟩ := de_term hd e1
    obtain ⟨b, b1, b3, rfl, l0, l1, l3⟩ := de_term he e2
    obtain ⟨_, _, _, _, m1, _, _, m4, m5⟩ := tmOf_some e1
    obtain ⟨_, _, _, _, n1, _, _, n4, n5⟩ := tmOf_some e2
    obtain ⟨_, m6, m7⟩ := pairD_some m1
    obtain ⟨_, n6, n7⟩ := pairD_some n1
    obtain ⟨m8, m9⟩ := tm_bounds m6 m4 m5
    obtain ⟨n8, n9⟩ := tm_bounds n6 n4 n5
    refine ⟨_, rfl, a, _, 2, .ref a3, rfl, rfl, k0, rfl, _, rfl, b, _, 2, .ref b3, rfl, rfl, l0, rfl, _, _, dp_pair k3, dp_pair l3, rfl, rfl, _, rfl, ?_⟩
    refine ite2 (fun c => ?_) (fun c => ?_)
    · obtain ⟨c1, c2⟩ := eqv_pair.mp c
      refine ⟨_, rfl, a, _, 1, .int p.2.1, rfl, rfl, k0, rfl, _, rfl, b, _, 1, .int q.2.1, rfl, rfl, l0, rfl, p.2.1, q.2.1, rfl, rfl, qq _ ?_⟩
      rw [decide_eq_true_iff]
      show q.2.1 < p.2.1 ↔ q.2.2.1 * p.2.2.2 < p.2.2.1 * q.2.2.2 ∨ (q.2.2.1 * p.2.2.2 = p.2.2.1 * q.2.2.2 ∧ q.2.1 < p.2.1)
      rw [c1, c2]
      simp
    · refine ⟨_, rfl, b, _, 2, .ref b3, rfl, rfl, l0, rfl, _, rfl, a, _, 2, .ref a3, rfl, rfl, k0, rfl, b3, a3, _, _, _, _, rfl, l3, k3, .inl ⟨by omega, by omega⟩, .inl ⟨by omega, by omega⟩, qq _ ?_⟩
      rw [decide_eq_true_iff]
      show q.2.2.1 * p.2.2.2 < p.2.2.1 * q.2.2.2 ↔ q.2.2.1 * p.2.2.2 < p.2.2.1 * q.2.2.2 ∨ (q.2.2.1 * p.2.2.2 = p.2.2.1 * q.2.2.2 ∧ q.2.1 < p.2.1)
      refine ⟨.inl, fun h => h.elim id fun h => ?_⟩
      exact absurd (eqv_pair.mpr (low_eq h.1.symm m7 n7 m6 n6)) c
end
end Nm

/-! The program's check_terms and class Curve. -/
namespace Nm
open PySem PySem.Spec PyProof.Rows L2 LamX
abbrev pCheck : Stmt := topS 19
structure BadT (P : Program) (K : PySem.W.Frag) (mg : Str → Option Value) (C : Addr) where
  st : Stmt
  qual : Str
  fI : Addr
  cc : Addr
  cda : Addr
  txt : Str
  file : Str
  T : XI K st qual C fI cc cda "index" txt file
  pf : PF P file
  sup : mg "super" = none
  gC : mg "BadCurve" = some (.ref C)
  tyC : PySem.W.typeIn K (.ref C) = some (.type "type")
section
variable {P : Program} {w : World} {K : PySem.W.Frag} {mg : Str → Option Value} {base : Heap}
def spCheck (K : PySem.W.Frag) (C : Addr) : Sp := fun vs H Q E => ∃ (x : V) (d : PyData) (S : Addr → Prop), vs = [x] ∧ DE K S H x d ∧ (dueOf d = none → ∀ H', Same H H' → Q .non H') ∧
  (∀ i, dueOf d = some i → ∀ dd H', Same H H' → H dd = none → H' dd = some (.xd [(PySem.Str.ofString "index", .int i)]) → E (.ref C) (some dd) H')
structure ChkT (P : Program) (w : World) (K : PySem.W.Frag) (mg : Str → Option Value) (base : Heap) extends PkT P w K mg base where
  fT : Addr
  fdT : FuncData
  fB : Addr
  fdB : FuncData
  FT : FnOk P w K mg base CX0 4 fT fdT ["thing"] (spPTerm K)
  FB : FnOk P w K mg base CX0 2 fB fdB ["term", "other"] (spPBehind K)
  bT : Binds K fdT ["thing"] []
  bB : Binds K fdB ["term", "other"] []
  gT : mg "is_term" = some (.ref fT)
  gB : mg "stands_behind" = some (.ref fB)
  kT : PySem.W.keepIn K (.ref fT) = true
  kB : PySem.W.keepIn K (.ref fB) = true
theorem scCheck : FnScope ["terms", "index", "term"] ["terms"] (defScope pCheck) := ⟨rfl, rfl, rfl, by decide +kernel, rfl, by decide +kernel, by decide +kernel⟩
open Classical in
theorem ok_check {f C : Addr} {fd : FuncData} (F : Fun K "check_terms" "check_terms" pCheck f fd) (T : JudT mg) (U : ChkT P w K mg base) (B : BadT P K mg C) : FnOk P w K mg base (L2.CX P w) 5 f fd ["terms"] (spCheck K C) := by
  refine F.okX scCheck (fun vs H Q E h => ?_) (fun cdv A outer s H vs Q E hr h => ?_)
  · obtain ⟨x, d, S, rfl, _⟩ := h
    rfl
  · obtain ⟨x, d, S, rfl, hd, q1, q2⟩ := h
    have hr2 : Room 2 _ := hr.mono (by decide)
    obtain ⟨t1, mT⟩ := U.mT
    refine ⟨_, pss_cons (ps_if (PW.pt (pw_or (pt_not (pt_val (pe_callB call_isi (by rfl) T.isi (by decide +kernel) (pa_cons (pv 0) (pa_cons (pe_bltn (v := .ty "tuple") (by rfl) T.tup (by decide +kernel) rfl) pa_nil)))))
          (pw_or1 (pt_cmpR op_gt (pe_callB call_len_seq (by rfl) T.len PySem.boot_len (pa_cons (pv 0) pa_nil)) (pe_glob (v := .int 8) (by rfl) mT ⟨_, rfl⟩) (nomark _)))))
          (pss_one (ps_raise rfl (takes_of rfl rfl rfl rfl) (pmk_newF B.T B.pf B.sup hr B.gC (pa_cons (pe_un un_neg pe_int) pa_nil) B.T.xt.sub B.tyC))) pss_nil)
      (pss_one (ps_for (passes_of rfl) rfl (pi_enumT (by rfl) T.enum (pa_cons (pv 0) pa_nil)) (pg_tup rfl (pgs_cons (pg_name (i := 1) scCheck.nd rfl (.inl rfl)) (pgs_cons (pg_name (i := 2) scCheck.nd rfl (.inl rfl)) pgs_nil)))
        (pss_cons (ps_if (pt_not (pt_val (pe_call U.FT hr (by rfl) U.gT U.kT U.bT .nil pass0 (pa_cons (pv 2) pa_nil)))) (pss_one (ps_raise rfl (takes_of rfl rfl rfl rfl) (pmk_newF B.T B.pf B.sup hr B.gC (pa_cons (pv 1) pa_nil) B.T.xt.sub B.tyC))) pss_nil)
        (pss_one (ps_if (PW.pt (pw_and (pt_cmpR op_gt (pv 1) pe_int (nomark _)) (pw_and1 (pt_not (pt_val (pe_call U.FB hr2 (by rfl) U.gB U.kB U.bB .nil pass0 (pa_cons (pv 2) (pa_cons (pe_ix ix_tup (pv 0) (pe_op op_sub (pv 1) pe_int) (fun _ _ => rfl)) pa_nil))))))))
          (pss_one (ps_raise rfl (takes_of rfl rfl rfl rfl) (pmk_newF B.T B.pf B.sup hr B.gC (pa_cons (pv 1) pa_nil) B.T.xt.sub B.tyC))) pss_nil))))), ?_⟩
    have bad : ∀ (i : Int) (H1 : Hp), dueOf d = some i → Same H H1 → ∃ v, ([.int i] : List V) = [v] ∧ ∀ dd, H1 dd = none → E (.ref C) (some dd) (L2.upd H1 dd (.xd [(PySem.Str.ofString "index", v)])) := fun i H1 e sm =>
      ⟨.int i, rfl, fun dd hdd => q2 i e dd _ (sm.trans (same_upd hdd)) (sm.free hdd) upd_same⟩
    refine ⟨_, rfl, _, _, _, _, _, rfl, .ty "tuple", de_ty hd, kit_t d, _, rfl, ?_⟩
    cases hd with
    | non => exact iteT ⟨1, rfl, bad _ _ rfl fun _ _ h => h⟩
    | bl b => exact iteT ⟨1, rfl, bad _ _ rfl fun _ _ h => h⟩
    | int i => exact iteT ⟨1, rfl, bad _ _ rfl fun _ _ h => h⟩
    | str x => exact iteT ⟨1, rfl, bad _ _ rfl fun _ _ h => h⟩
    | lst _ _ _ => exact iteT ⟨1, rfl, bad _ _ rfl fun _ _ h => h⟩
    | dic _ _ => exact iteT ⟨1, rfl, bad _ _ rfl fun _ _ h => h⟩
    | @tup a xs ds ha hx =>
      refine iteF ?_
      have hl := hx.len
      refine ⟨_, rfl, a, xs, rfl, .inr (ha.sq), _, 8, rfl, rfl, _, rfl, ?_⟩
      refine ite2 (fun c => ⟨1, rfl, bad _ _ ?_ fun _ _ h => h⟩) (fun c => ?_)
      · have c : (8 : Int) < xs.length := of_decide_eq_true c
        show (if 8 < ds.length then some (-1 : Int) else _) = _
        rw [if_pos (by omega)]
      have c8 : ¬ 8 < ds.length := fun z => c (decide_eq_true (by omega))
      have e0 : dueOf (.tuple ds) = (dueGo none 0 ds).map fun i : Nat => (i : Int) := if_neg c8
      refine ⟨_, rfl, a, xs, rfl, ha.sq, ?_⟩
      refine for_enumT (K := K) (a := a) (xs := xs) (fun i σ H' => Same H H' ∧ ∃ (y z : Option V) (prev : Option Tm), σ = [some (.ref a), y, z] ∧ dueGo none 0 ds = dueGo prev i (ds.drop i) ∧
          (i = 0 → prev = none) ∧ (∀ j, i = j + 1 → ∃ d p, ds[j]? = some d ∧ tmOf d = some p ∧ prev = some p))
        ⟨fun _ _ h => h, none, none, none, rfl, rfl, fun _ => rfl, fun j z => by cases z⟩ (fun i σ H' _ h => Nm.Same.seqT h.1 ha.sq) (fun i x Tt σ H' hi h hT => ?_) (fun σ H' h => ?_)
      · obtain ⟨sm, y, z, prev, rfl, eg, p0, p1⟩ := h
        obtain ⟨dd, hdd, rdd⟩ := hx.at hi
        have s1 : Same H (L2.upd H' Tt (.tup [.int (i : Nat), x])) := sm.trans (same_upd hT)
        have hTt : L2.upd H' Tt (.tup [.int (i : Nat), x]) Tt = some (.tup [.int (i : Nat), x]) := upd_same
        generalize L2.upd H' Tt (.tup [.int (i : Nat), x]) = H1 at *
        refine ⟨Tt, _, rfl, SqT.of hTt, rfl, _, _, rfl, _, _, rfl, rfl, ?_⟩
        rw [dueGo_step hdd] at eg
        refine ⟨_, rfl, x, dd, S, rfl, DE.same s1 rdd, _, rfl, ?_⟩
        cases et : tmOf dd with
        | none =>
          refine iteT ⟨_, rfl, bad _ _ ?_ s1⟩
          rw [e0, eg]
          show Option.map _ (match tmOf dd with | none => some i | some t => _) = _
          rw [et]
          rfl
        | some t =>
          refine iteF ?_
          have step : dueGo prev i (dd :: ds.drop (i + 1)) = if okBehind prev t then dueGo (some t) (i + 1) (ds.drop (i + 1)) else some i := by
            show (match tmOf dd with | none => some i | some t => _) = _
            rw [et]
          rw [step] at eg
          have next : okBehind prev t → Same H H1 ∧ ∃ (y z : Option V) (prev : Option Tm), ([some (.ref a), some (.int (i : Nat)), some x] : L2.St) = [some (.ref a), y, z] ∧ dueGo none 0 ds = dueGo prev (i + 1) (ds.drop (i + 1)) ∧
              (i + 1 = 0 → prev = none) ∧ (∀ j, i + 1 = j + 1 → ∃ d p, ds[j]? = some d ∧ tmOf d = some p ∧ prev = some p) := fun ok => by
            rw [if_pos ok] at eg
            refine ⟨s1, _, _, some t, rfl, eg, fun z => (Nat.succ_ne_zero i z).elim, fun j z => ?_⟩
            obtain rfl : i = j := by omega
            exact ⟨dd, t, hdd, et, rfl⟩
          refine ⟨_, rfl, (i : Nat), 0, rfl, rfl, _, rfl, ?_⟩
          refine ite2 (fun c0 => ?_) (fun c0 => ?_)
          · have c0 : (0 : Int) < (i : Nat) := of_decide_eq_true c0
            obtain ⟨j, rfl⟩ : ∃ j, i = j + 1 := ⟨i - 1, by omega⟩
            obtain ⟨dj, p, hj, ej, rfl⟩ := p1 j rfl
            have hjl := (List.getElem?_eq_some_iff.mp hj).1
            obtain ⟨xj, hxj⟩ : ∃ xj, xs[j]? = some xj := ⟨xs[j]'(by omega), List.getElem?_eq_getElem _⟩
            obtain ⟨dj', hj', rj⟩ := hx.at hxj
            rw [hj] at hj'
            obtain rfl := Option.some.inj hj'
            refine ⟨_, rfl, _, rfl, _, rfl, ((j + 1 : Nat) : Int), 1, rfl, rfl, a, _, _, xj, rfl, rfl, Nm.Same.seqT s1 ha.sq, ?_, ?_⟩
            · have e : ((j + 1 : Nat) : Int) - 1 = (j : Nat) := by omega
              rw [e]
              exact atI_nat hxj
            refine ⟨x, xj, dd, dj, S, t, p, rfl, DE.same s1 rdd, DE.same s1 rj, et, ej, fun b hb => ⟨b, rfl, ?_⟩⟩
            cases b with
            | true => exact iteF (next fun p' e => by obtain rfl := Option.some.inj e; exact hb.mp rfl)
            | false =>
              refine iteT ⟨_, rfl, bad _ _ ?_ s1⟩
              have no : ¬ okBehind (some p) t := fun ok => by
                have := hb.mpr (ok p rfl)
                cases this
              rw [e0, eg, if_neg no]
              rfl
          · have c0 : ¬ (0 : Int) < (i : Nat) := fun z => c0 (decide_eq_true z)
            have i0 : i = 0 := by omega
            exact next fun p e => by
              rw [p0 i0] at e
              cases e
      · obtain ⟨sm, y, z, prev, rfl, eg, _, _⟩ := h
        have hnone : dueOf (.tuple ds) = none := by
          rw [e0, eg, List.drop_eq_nil_of_le (by omega)]
          rfl
        exact q1 hnone _ sm
end
end Nm

/-! class Curve: __init__, __eq__. -/
namespace Nm
open PySem PySem.Spec PyProof.Rows L2 LamX
abbrev pInit : Stmt := inClass (topS 18) 0
abbrev pEq : Stmt := inClass (topS 18) 1
section
variable {P : Program} {w : World} {K : PySem.W.Frag} {mg : Str → Option Value} {base : Heap}
structure CvK (K : PySem.W.Frag) (mg : Str → Option Value) (Cc : Addr) : Prop where
  cl : Cls K Cc
  nT : NoAttr K Cc "terms"
  gC : mg "Curve" = some (.ref Cc)
  ca : PySem.W.findIn K (.ref Cc) "__class__" = some (some (.builtin "object.__class__"))
  gs : PySem.W.specialIn K (.builtin "object.__class__") "__get__" = some (some (.builtin "getset_descriptor.__get__"))
  tk : PySem.W.takesIn K (.builtin "object.__class__") = some true
  mr : PySem.W.mroIn K Cc (.type "object") = some true
  kitT : PySem.W.kitOne K (.ref Cc) (.ref Cc) = some true
  kitF : ∀ d : PyData, PySem.W.kitOne K (.type (tyN d)) (.ref Cc) = some false
/-- a made curve: its object at a with the own dict dx, its terms v -/
def CvAt (Cc : Addr) (H : Hp) (a : Addr) (v : V) : Prop := ∃ dx, H a = some (.ins Cc dx [(PySem.Str.ofString "terms", v)])
def spInit (K : PySem.W.Frag) (Cc C : Addr) : Sp := fun vs H Q E => ∃ (a dx : Addr) (x : V) (d : PyData) (S : Addr → Prop), vs = [.ref a, x] ∧ H a = some (.ins Cc dx []) ∧ DE K S H x d ∧
  (dueOf d = none → ∀ H1, Same H H1 → Q .non (L2.upd H1 a (.ins Cc dx [(PySem.Str.ofString "terms", x)]))) ∧
  (∀ i, dueOf d = some i → ∀ dd H', Same H H' → H dd = none → H' dd = some (.xd [(PySem.Str.ofString "index", .int i)]) → E (.ref C) (some dd) H')
structure IniT (P : Program) (w : World) (K : PySem.W.Frag) (mg : Str → Option Value) (base : Heap) (C : Addr) where
  fK : Addr
  fdK : FuncData
  FK : FnOk P w K mg base (L2.CX P w) 5 fK fdK ["terms"] (spCheck K C)
  bK : Binds K fdK ["terms"] []
  gK : mg "check_terms" = some (.ref fK)
  kK : PySem.W.keepIn K (.ref fK) = true
theorem scInit : FnScope ["self", "terms"] ["self", "terms"] (defScope pInit) := ⟨rfl, rfl, rfl, by decide +kernel, rfl, by decide +kernel, by decide +kernel⟩
theorem ok_init {f C Cc : Addr} {fd : FuncData} (F : Fun K "__init__" "Curve.__init__" pInit f fd) (T : CvK K mg Cc) (U : IniT P w K mg base C) : FnOk P w K mg base (L2.CX P w) 6 f fd ["self", "terms"] (spInit K Cc C) := by
  refine F.okX scInit (fun vs H Q E h => ?_) (fun cdv A outer s H vs Q E hr h => ?_)
  · obtain ⟨a, dx, x, d, S, rfl, _⟩ := h
    rfl
  · obtain ⟨a, dx, x, d, S, rfl, ha, hd, q1, q2⟩ := h
    refine ⟨_, pss_cons (ps_expr (pe_call U.FK hr (by rfl) U.gK U.kK U.bK .nil (passes_call (takes_of rfl rfl rfl rfl) (E := E) (fun _ _ _ _ h => h)) (pa_cons (pv 1) pa_nil)))
      (pss_one (ps_fld (pv 0) (pv 1) rfl)), ?_⟩
    refine ⟨_, rfl, x, d, S, rfl, hd, fun e H1 sm => ?_, q2⟩
    exact ⟨_, rfl, _, rfl, a, Cc, dx, [], rfl, sm _ _ ha, T.cl, T.nT, by decide, q1 e H1 sm⟩
/-! ### __eq__ -/
def spCEq (K : PySem.W.Frag) (Cc : Addr) : Sp := fun vs H Q _ => ∃ (a : Addr) (y va : V), vs = [.ref a, y] ∧ CvAt Cc H a va ∧
  ((∃ (b : Addr) (vb : V) (d e : PyData), y = .ref b ∧ CvAt Cc H b vb ∧ Dp K H va d ∧ Dp K H vb e ∧ SeqAt.shaped d = true ∧ SeqAt.shaped e = true ∧ Q (.bl (PyData.eqv d e)) H) ∨
   ∃ (d : PyData) (S : Addr → Prop), DE K S H y d ∧ Q (.bl false) H)
theorem scCEq : FnScope ["self", "other"] ["self", "other"] (defScope pEq) := ⟨rfl, rfl, rfl, by decide +kernel, rfl, by decide +kernel, by decide +kernel⟩
theorem ok_ceq {f Cc : Addr} {fd : FuncData} {k : Nat} (F : Fun K "__eq__" "Curve.__eq__" pEq f fd) (T : CvK K mg Cc) (J : JudT mg) : FnOk P w K mg base CX0 (k + 1) f fd ["self", "other"] (spCEq K Cc) := by
  refine F.ok scCEq (fun vs H Q E h => ?_) (fun cdv A outer s H vs Q E hr h => ?_)
  · obtain ⟨a, y, va, rfl, _⟩ := h
    rfl
  · obtain ⟨a, y, va, rfl, ⟨dx, ha⟩, h⟩ := h
    refine ⟨_, pss_one (ps_ret (pe_and (pe_callB call_isi (by rfl) J.isi (by decide +kernel) (pa_cons (pv 1) (pa_cons (pe_glob (v := .ref Cc) (by rfl) T.gC rfl) pa_nil)))
      (pe_one (pe_cmpR (op_eqD hr.units) (pe_fld (pv 0) rfl) (pe_fld (pv 1) rfl) (nomark _))))), ?_⟩
    rcases h with ⟨b, vb, d, e, rfl, ⟨dy, hb⟩, r1, r2, s1, s2, q⟩ | ⟨d, S, hd, q⟩
    · refine ⟨_, rfl, .ref b, .ref Cc, .ref Cc, .ref Cc, true, rfl, .own Cc, .base (.ins hb T.cl T.ca T.gs T.tk T.mr), T.kitT, _, rfl, ?_⟩
      refine iteT ?_
      exact ⟨_, rfl, a, Cc, dx, _, va, rfl, ha, T.cl, T.nT, rfl, _, rfl, b, Cc, dy, _, vb, rfl, hb, T.cl, T.nT, rfl, d, e, r1, r2, s1, s2, q⟩
    · refine ⟨_, rfl, y, .ref Cc, _, .ref Cc, false, rfl, .own Cc, de_ty hd, T.kitF d, _, rfl, ?_⟩
      exact iteF q
end
end Nm

/-! The texts of terms, as lists of signs: what is written, how it is cut, how it is read back. -/
namespace Nm
open PySem TL
abbrev Sg := List Nat
/-! ### cutting at one sign -/
theorem spl_ne (S : Sg) : ∀ (l : Sg) (k : Nat) (acc : Sg), spl S k acc l ≠ []
  | [], k, acc => by rw [spl_nil]; simp
  | c :: r, 0, acc => by
    by_cases h : pre S (c :: r) = true
    · rw [spl_hit h]; simp
    · rw [spl_miss (by simpa using h)]
      exact spl_ne S r 0 _
  | c :: r, k + 1, acc => by
    show spl S k acc r ≠ []
    exact spl_ne S r k acc
theorem pre1 (s c : Nat) (r : Sg) : pre [s] (c :: r) = decide (c = s) := by
  unfold pre
  show ([c] == [s]) = _
  by_cases h : c = s
  · subst h; simp
  · simp [h]
theorem spl1_hit {s : Nat} {acc r : Sg} : spl [s] 0 acc (s :: r) = acc :: spl [s] 0 [] r := by
  rw [spl_hit (by rw [pre1]; simp)]
  rfl
theorem spl1_miss {s c : Nat} {acc r : Sg} (h : c ≠ s) : spl [s] 0 acc (c :: r) = spl [s] 0 (acc ++ [c]) r := spl_miss (by rw [pre1]; simp [h])
theorem joinL_cons {S p : Sg} {ps : List Sg} (h : ps ≠ []) : joinL S (p :: ps) = p ++ (S ++ joinL S ps) := by
  cases ps with
  | nil => exact absurd rfl h
  | cons q r => rfl
theorem join_spl (s : Nat) : ∀ (l acc : Sg), joinL [s] (spl [s] 0 acc l) = acc ++ l
  | [], acc => by rw [spl_nil]; simp [joinL]
  | c :: r, acc => by
    by_cases h : c = s
    · subst h
      rw [spl1_hit, joinL_cons (spl_ne _ _ _ _), join_spl c r []]
      simp
    · rw [spl1_miss h, join_spl s r]
      simp
theorem spl_free (s : Nat) : ∀ (l acc : Sg), s ∉ acc → ∀ p ∈ spl [s] 0 acc l, s ∉ p
  | [], acc, ha, p, hp => by
    rw [spl_nil] at hp
    rw [List.mem_singleton.mp hp]
    exact ha
  | c :: r, acc, ha, p, hp => by
    by_cases h : c = s
    · subst h
      rw [spl1_hit] at hp
      rcases List.mem_cons.mp hp with rfl | hp
      · exact ha
      · exact spl_free c r [] (by simp) p hp
    · rw [spl1_miss h] at hp
      refine spl_free s r _ ?_ p hp
      intro z
      rcases List.mem_append.mp z with z | z
      · exact ha z
      · exact h (List.mem_singleton.mp z).symm
/-! ### numbers -/
def dig (c : Nat) : Bool := decide (48 ≤ c) && decide (c ≤ 57)
theorem dig_iff {c : Nat} : dig c = true ↔ 48 ≤ c ∧ c ≤ 57 := by unfold dig; simp
theorem all_dig {w : Sg} : w.all dig = true ↔ NumText.AllDigits w := by
  unfold NumText.AllDigits
  rw [List.all_eq_true]
  exact ⟨fun h c hc => dig_iff.mp (h c hc), fun h c hc => dig_iff.mpr (h c hc)⟩
theorem numL_val_lt (n : Nat) : n < 10 ^ (numL n).length := by
  induction n using Nat.strongRecOn with
  | _ n ih =>
    by_cases h : n < 10
    · rw [numL_lt h]
      exact h
    · rw [numL_step (by omega), List.length_append]
      have z := ih (n / 10) (by omega)
      show n < 10 ^ ((numL (n / 10)).length + 1)
      rw [Nat.pow_succ]
      omega
theorem val_lt : ∀ (l : Sg) (a : Nat), NumText.AllDigits l → l.foldl (fun acc c => acc * 10 + (c - 48)) a < (a + 1) * 10 ^ l.length
  | [], a, _ => by simp
  | c :: r, a, h => by
    have hc := h.head
    rw [List.foldl_cons]
    have z := val_lt r (a * 10 + (c - 48)) h.tail
    have z2 : (a * 10 + (c - 48) + 1) * 10 ^ r.length ≤ (a + 1) * 10 ^ (r.length + 1) := by
      rw [Nat.pow_succ, Nat.mul_comm (10 ^ r.length) 10, ← Nat.mul_assoc]
      exact Nat.mul_le_mul_right _ (by omega)
    exact Nat.lt_of_lt_of_le z z2
theorem digitsVal_lt {l : Sg} (h : NumText.AllDigits l) : NumText.digitsVal l < 10 ^ l.length := by
  have z := val_lt l 0 h
  rw [Nat.zero_add, Nat.one_mul] at z
  exact z
theorem map_nat : ∀ {l : Sg}, NumText.AllDigits l → (l.map Char.ofNat).map Char.toNat = l
  | [], _ => rfl
  | c :: r, h => by
    have hc := h.head
    have e : (Char.ofNat c).toNat = c := by
      have : ∀ x : Nat, x < 58 → (Char.ofNat x).toNat = x := by decide
      exact this c (by omega)
    rw [List.map_cons, List.map_cons, e, map_nat h.tail]
theorem numL_of {w : Sg} (h : NumText.AllDigits w) (h0 : w ≠ []) (hh : w.length = 1 ∨ ∃ c r, w = c :: r ∧ 49 ≤ c) : numL (NumText.digitsVal w) = w := by
  have hl : w.length = (w.length - 1) + 1 := by
    cases w with
    | nil => exact absurd rfl h0
    | cons c r => simp
  have z := NumText.toDigits_digitsVal (w.length - 1) w hl h (hh.imp (fun e => by omega) id)
  unfold numL
  rw [z]
  exact map_nat h
theorem numL_head {n : Nat} (h : 0 < n) : ∃ c r, numL n = c :: r ∧ 49 ≤ c ∧ c ≤ 57 := by
  induction n using Nat.strongRecOn with
  | _ n ih =>
    by_cases h1 : n < 10
    · rw [numL_lt h1]
      exact ⟨_, _, rfl, by omega, by omega⟩
    · obtain ⟨c, r, e, h2, h3⟩ := ih (n / 10) (by omega) (by omega)
      rw [numL_step (by omega), e]
      exact ⟨c, _, rfl, h2, h3⟩
theorem numL_small {n k : Nat} (hk : 0 < k) : (numL n).length ≤ k ↔ n < 10 ^ k :=
  ⟨fun h => Nat.lt_of_lt_of_le (numL_val_lt n) (Nat.pow_le_pow_right (by decide) h), numL_len hk⟩
/-- a number without needless zeros, of at most thirty figures -/
def numR (w : Sg) : Option Nat := if 0 < w.length ∧ w.length < 31 ∧ w.all dig = true then (if w.head? = some 48 ∧ 1 < w.length then none else some (NumText.digitsVal w)) else none
theorem numR_iff {w : Sg} {n : Nat} : numR w = some n ↔ w = numL n ∧ n < 10 ^ 30 := by
  unfold numR
  constructor
  · intro h
    split at h
    · rename_i c
      obtain ⟨c1, c2, c3⟩ := c
      split at h
      · cases h
      · rename_i d
        obtain rfl := Option.some.inj h
        have hd := all_dig.mp c3
        refine ⟨(numL_of hd (by intro e; rw [e] at c1; simp at c1) ?_).symm, ?_⟩
        · cases w with
          | nil => simp at c1
          | cons a r =>
            by_cases z : r = []
            · subst z; exact .inl rfl
            · right
              refine ⟨a, r, rfl, ?_⟩
              have ha := hd.head
              have hl : 1 < (a :: r).length := by
                cases r with
                | nil => exact absurd rfl z
                | cons b r => simp
              have : a ≠ 48 := fun e => d ⟨by rw [e]; rfl, hl⟩
              omega
        · exact Nat.lt_of_lt_of_le (digitsVal_lt hd) (Nat.pow_le_pow_right (by decide) (by omega))
    · cases h
  · rintro ⟨rfl, h⟩
    have l1 : (numL n).length ≤ 30 := (numL_small (by decide)).mpr h
    have l0 : 0 < (numL n).length := by
      cases e : numL n with
      | nil => exact absurd e (numL_ne n)
      | cons a r => simp
    rw [if_pos ⟨l0, by omega, all_dig.mpr (numL_digits n)⟩, if_neg, numL_val]
    rintro ⟨h1, h2⟩
    by_cases z : n < 10
    · rw [numL_lt z] at h2
      simp at h2
    · obtain ⟨c, r, e, h3, h4⟩ := numL_head (n := n) (by omega)
      rw [e] at h1
      simp at h1
      omega
/-! ### sizes -/
/-- a size: both parts above 0, in lowest terms, of at most thirty figures -/
def PV (c : Int × Int) : Prop := 0 < c.1 ∧ 0 < c.2 ∧ Int.gcd c.1 c.2 = 1 ∧ c.1 < 10 ^ 30 ∧ c.2 < 10 ^ 30
def sizeL (c : Int × Int) : Sg := if c.2 = 1 then numL c.1.natAbs else numL c.1.natAbs ++ 47 :: numL c.2.natAbs
def szN : List (Option Nat) → Option (Int × Int)
  | [some a] => if a = 0 then none else some (a, 1)
  | [some a, some b] => if a = 0 ∨ b = 0 then none else if 1 < b ∧ Nat.gcd a b = 1 then some (a, b) else none
  | _ => none
def szR (w : Sg) : Option (Int × Int) := szN ((spl [47] 0 [] w).map numR)
theorem num_free (n : Nat) : 47 ∉ numL n := numL_free (by omega)
theorem size_spl (c : Int × Int) : spl [47] 0 [] (sizeL c) = if c.2 = 1 then [numL c.1.natAbs] else [numL c.1.natAbs, numL c.2.natAbs] := by
  unfold sizeL
  split
  · exact spl_last1 (num_free _)
  · have z := spl_join (s := 47) (S := []) (parts := [numL c.1.natAbs, numL c.2.natAbs]) (by simp) (fun p hp => by
      simp only [List.mem_cons, List.not_mem_nil, or_false] at hp
      rcases hp with rfl | rfl <;> exact num_free _)
    exact z
theorem szR_iff {w : Sg} {c : Int × Int} : szR w = some c ↔ PV c ∧ sizeL c = w := by
  constructor
  · intro h
    unfold szR at h
    have hj := join_spl 47 w []
    generalize spl [47] 0 [] w = hs at h hj
    match hs, h, hj with
    | [], h, _ => simp [szN] at h
    | [u], h, hj =>
      cases eu : numR u with
      | none => simp [szN, eu] at h
      | some a =>
        simp only [List.map_cons, List.map_nil, eu, szN] at h
        split at h
        · cases h
        · rename_i a0
          obtain rfl := Option.some.inj h
          obtain ⟨rfl, ha⟩ := numR_iff.mp eu
          refine ⟨⟨by show (0 : Int) < a; omega, by show (0 : Int) < 1; decide, by show Int.gcd a 1 = 1; simp, by show (a : Int) < _; exact_mod_cast ha, by show (1 : Int) < 10 ^ 30; decide⟩, ?_⟩
          simpa [sizeL, joinL] using hj
    | [u, v], h, hj =>
      cases eu : numR u with
      | none => simp [szN, eu] at h
      | some a =>
        cases ev : numR v with
        | none => simp [szN, eu, ev] at h
        | some b =>
          simp only [List.map_cons, List.map_nil, eu, ev, szN] at h
          split at h
          · cases h
          · rename_i ab0
            split at h
            · rename_i hb
              obtain rfl := Option.some.inj h
              obtain ⟨rfl, ha⟩ := numR_iff.mp eu
              obtain ⟨rfl, hb2⟩ := numR_iff.mp ev
              have z : ¬ a = 0 := fun e => ab0 (.inl e)
              refine ⟨⟨by show (0 : Int) < a; omega, by show (0 : Int) < b; omega, by show Int.gcd a b = 1; exact hb.2, by show (a : Int) < _; exact_mod_cast ha, by show (b : Int) < _; exact_mod_cast hb2⟩, ?_⟩
              have hb1 : ¬ (b : Int) = 1 := by omega
              simp only [sizeL, if_neg hb1]
              simpa [joinL] using hj
            · cases h
    | u :: v :: x :: r, h, _ =>
      cases eu : numR u <;> cases ev : numR v <;> simp [szN, eu, ev] at h
  · rintro ⟨⟨h1, h2, h3, h4, h5⟩, rfl⟩
    unfold szR
    rw [size_spl]
    have a1 : numR (numL c.1.natAbs) = some c.1.natAbs := numR_iff.mpr ⟨rfl, by omega⟩
    have a2 : numR (numL c.2.natAbs) = some c.2.natAbs := numR_iff.mpr ⟨rfl, by omega⟩
    split
    · rename_i e
      simp only [List.map_cons, List.map_nil, a1, szN]
      rw [if_neg (by omega)]
      congr 1
      exact Prod.ext (by show (c.1.natAbs : Int) = c.1; omega) e.symm
    · rename_i e
      simp only [List.map_cons, List.map_nil, a1, a2, szN]
      rw [if_neg (by omega), if_pos ⟨by omega, h3⟩]
      congr 1
      exact Prod.ext (by show (c.1.natAbs : Int) = c.1; omega) (by show (c.2.natAbs : Int) = c.2; omega)
theorem size_head {c : Int × Int} (h : PV c) : ∃ a r, sizeL c = a :: r ∧ 49 ≤ a ∧ a ≤ 57 := by
  obtain ⟨a, r, e, h1, h2⟩ := numL_head (n := c.1.natAbs) (by have := h.1; omega)
  unfold sizeL
  split
  · exact ⟨a, r, e, h1, h2⟩
  · rw [e]
    exact ⟨a, _, rfl, h1, h2⟩
theorem size_signs {c : Int × Int} {x : Nat} (h : x ∈ sizeL c) : 47 ≤ x ∧ x ≤ 57 := by
  have hd : ∀ n, x ∈ numL n → 47 ≤ x ∧ x ≤ 57 := fun n hx => by
    have := numL_digits n x hx
    omega
  unfold sizeL at h
  split at h
  · exact hd _ h
  · rcases List.mem_append.mp h with h | h
    · exact hd _ h
    · rcases List.mem_cons.mp h with rfl | h
      · omega
      · exact hd _ h
end Nm

/-! Words and terms. -/
namespace Nm
open PySem TL
/-- (c, k, q) -/
abbrev T4 := (Int × Int) × Int × Int × Int
def RQ (t u : Int) : Prop := 1 ≤ u ∧ u ≤ 4 ∧ Int.gcd t u = 1 ∧ -(4 * u) ≤ t ∧ t ≤ 4 * u
def powL (k : Int) : List Sg := if k = 1 then [[116]] else if 1 < k then [116 :: 94 :: numL k.natAbs] else []
def eIn (q : Int × Int) : Sg := (if q.1 < 0 then [45] else []) ++ sizeL q
def eW (q : Int × Int) : Sg := 101 :: 94 :: 40 :: (eIn q ++ [41])
def eL (q : Int × Int) : List Sg := if q.1 = 0 then [] else [eW q]
def behL (k : Int) (q : Int × Int) : List Sg := powL k ++ eL q
def wrdL (t : T4) : List Sg := if t.1.1.natAbs = 1 ∧ t.1.2 = 1 ∧ behL t.2.1 t.2.2 ≠ [] then behL t.2.1 t.2.2 else sizeL t.1 :: behL t.2.1 t.2.2
def tmL (t : T4) : Sg := joinL [32] (wrdL t)
/-- a term that may be written, its c above 0 -/
def TV (t : T4) : Prop := PV t.1 ∧ (0 ≤ t.2.1 ∧ t.2.1 ≤ 3) ∧ RQ t.2.2.1 t.2.2.2
/-! ### powers -/
def powR (w : Sg) : Option Int := if w = [116] then some 1 else if w = [116, 94, 50] then some 2 else if w = [116, 94, 51] then some 3 else none
theorem num2 : numL 2 = [50] := numL_lt (by decide)
theorem num3 : numL 3 = [51] := numL_lt (by decide)
theorem num1 : numL 1 = [49] := numL_lt (by decide)
theorem powL_1 : powL 1 = [[116]] := rfl
theorem powL_2 : powL 2 = [[116, 94, 50]] := by
  show [116 :: 94 :: numL 2] = _
  rw [num2]
theorem powL_3 : powL 3 = [[116, 94, 51]] := by
  show [116 :: 94 :: numL 3] = _
  rw [num3]
theorem powR_iff {w : Sg} {k : Int} : powR w = some k ↔ (1 ≤ k ∧ k ≤ 3) ∧ powL k = [w] := by
  constructor
  · intro h
    unfold powR at h
    split at h
    · rename_i e
      obtain rfl := Option.some.inj h
      exact ⟨by omega, by rw [powL_1, e]⟩
    · split at h
      · rename_i e
        obtain rfl := Option.some.inj h
        exact ⟨by omega, by rw [powL_2, e]⟩
      · split at h
        · rename_i e
          obtain rfl := Option.some.inj h
          exact ⟨by omega, by rw [powL_3, e]⟩
        · cases h
  · rintro ⟨⟨h1, h2⟩, h⟩
    have : k = 1 ∨ k = 2 ∨ k = 3 := by omega
    rcases this with rfl | rfl | rfl
    · rw [powL_1] at h
      injection h with h _
      subst h
      rfl
    · rw [powL_2] at h
      injection h with h _
      subst h
      rfl
    · rw [powL_3] at h
      injection h with h _
      subst h
      rfl
/-! ### e ^ (q t) -/
def rateOf (s : Option (Int × Int)) (neg : Bool) : Option (Int × Int) :=
  match s with
  | none => none
  | some z => if z.2 > 4 ∨ z.1 > 4 * z.2 then none else some (if neg then (-z.1, z.2) else z)
def eR (w : Sg) : Option (Int × Int) :=
  match w with
  | 101 :: 94 :: 40 :: r => if r.getLast? = some 41 then (match r.dropLast with | 45 :: z => rateOf (szR z) true | z => rateOf (szR z) false) else none
  | _ => none
theorem sizeL_neg (q : Int × Int) : sizeL (-q.1, q.2) = sizeL q := by
  unfold sizeL
  rw [Int.natAbs_neg]
theorem eR_iff {w : Sg} {q : Int × Int} : eR w = some q ↔ (RQ q.1 q.2 ∧ q.1 ≠ 0) ∧ eW q = w := by
  constructor
  · intro h
    unfold eR at h
    split at h
    · rename_i r
      split at h
      · rename_i hl
        have er : r = r.dropLast ++ [41] := by
          have hne : r ≠ [] := by intro e; rw [e] at hl; cases hl
          have z := List.dropLast_concat_getLast hne
          rw [List.getLast?_eq_some_getLast hne] at hl
          rw [Option.some.inj hl] at z
          exact z.symm
        have go : ∀ (z : Sg) (neg : Bool), rateOf (szR z) neg = some q → (if neg then 45 :: z else z) = r.dropLast → (RQ q.1 q.2 ∧ q.1 ≠ 0) ∧ eW q = 101 :: 94 :: 40 :: r := by
          intro z neg hz ez
          unfold rateOf at hz
          cases es : szR z with
          | none => rw [es] at hz; cases hz
          | some s =>
            rw [es] at hz
            dsimp only at hz
            split at hz
            · cases hz
            · rename_i hb
              obtain ⟨⟨p1, p2, p3, _, _⟩, e3⟩ := szR_iff.mp es
              have hb1 : s.2 ≤ 4 := by
                by_cases c : s.2 > 4
                · exact absurd (.inl c) hb
                · omega
              have hb2 : s.1 ≤ 4 * s.2 := by
                by_cases c : s.1 > 4 * s.2
                · exact absurd (.inr c) hb
                · omega
              cases neg with
              | false =>
                obtain rfl := Option.some.inj hz
                refine ⟨⟨⟨by show 1 ≤ s.2; omega, hb1, p3, by show -(4 * s.2) ≤ s.1; omega, hb2⟩, by show s.1 ≠ 0; omega⟩, ?_⟩
                show 101 :: 94 :: 40 :: (((if s.1 < 0 then [45] else []) ++ sizeL s) ++ [41]) = _
                have ez : z = r.dropLast := ez
                rw [if_neg (show ¬ s.1 < 0 by omega), e3, er, ← ez]
                rfl
              | true =>
                obtain rfl := Option.some.inj hz
                refine ⟨⟨⟨by show 1 ≤ s.2; omega, hb1, by show Int.gcd (-s.1) s.2 = 1; rw [Int.neg_gcd]; exact p3, by show -(4 * s.2) ≤ -s.1; omega, by show -s.1 ≤ 4 * s.2; omega⟩, by show -s.1 ≠ 0; omega⟩, ?_⟩
                show 101 :: 94 :: 40 :: (((if -s.1 < 0 then [45] else []) ++ sizeL (-s.1, s.2)) ++ [41]) = _
                have ez : 45 :: z = r.dropLast := ez
                rw [if_pos (show -s.1 < 0 by omega), sizeL_neg, e3, er, ← ez]
                rfl
        split at h
        · rename_i z ez
          exact go z true h ez.symm
        · rename_i z _ 
          exact go _ false h rfl
      · cases h
    · cases h
  · rintro ⟨⟨⟨h1, h2, h3, h4, h5⟩, h0⟩, rfl⟩
    unfold eW eR
    have gl : (eIn q ++ [41]).getLast? = some 41 := by simp
    simp only [gl, if_true, List.dropLast_concat]
    have hs : szR (sizeL q) = some ((q.1.natAbs : Int), q.2) := by
      have e : sizeL q = sizeL ((q.1.natAbs : Int), q.2) := by
        unfold sizeL
        simp
      rw [e]
      have b1 : (q.1.natAbs : Int) < 10 ^ 30 := Int.lt_of_le_of_lt (show (q.1.natAbs : Int) ≤ 16 by omega) (by decide)
      have b2 : q.2 < 10 ^ 30 := Int.lt_of_le_of_lt h2 (by decide)
      exact szR_iff.mpr ⟨⟨by show (0 : Int) < q.1.natAbs; omega, by show 0 < q.2; omega, h3, b1, b2⟩, rfl⟩
    unfold eIn
    by_cases hn : q.1 < 0
    · rw [if_pos hn]
      show rateOf (szR (sizeL q)) true = some q
      rw [hs]
      unfold rateOf
      dsimp only
      rw [if_neg (by omega)]
      simp only [if_true]
      congr 1
      exact Prod.ext (by show -(q.1.natAbs : Int) = q.1; omega) rfl
    · rw [if_neg hn, List.nil_append]
      obtain ⟨a, r, e, ha, _⟩ := size_head (c := ((q.1.natAbs : Int), q.2)) (szR_iff.mp hs).1
      have e2 : sizeL q = a :: r := by
        rw [← e]
        unfold sizeL
        simp
      rw [e2]
      split
      · rename_i z ez
        injection ez with e5 _
        omega
      · rw [← e2, hs]
        unfold rateOf
        dsimp only
        rw [if_neg (by omega)]
        simp only [Bool.false_eq_true, if_false]
        congr 1
        exact Prod.ext (by show (q.1.natAbs : Int) = q.1; omega) rfl
theorem eIn_signs {q : Int × Int} {x : Nat} (h : x ∈ eIn q) : 45 ≤ x ∧ x ≤ 57 := by
  unfold eIn at h
  rcases List.mem_append.mp h with h | h
  · split at h
    · rw [List.mem_singleton.mp h]; omega
    · cases h
  · have := size_signs h
    omega
/-! ### the words of a term -/
def goodW (w : Sg) : Prop := w ≠ [] ∧ 32 ∉ w ∧ ∀ a r, w = a :: r → a ≠ 43 ∧ a ≠ 45
theorem good_pow {k : Int} {w : Sg} (h : w ∈ powL k) : goodW w := by
  unfold powL at h
  split at h
  · rw [List.mem_singleton.mp h]
    exact ⟨by simp, by simp, fun a r e => by injection e with e _; omega⟩
  · split at h
    · rw [List.mem_singleton.mp h]
      refine ⟨by simp, fun z => ?_, fun a r e => by injection e with e _; omega⟩
      simp only [List.mem_cons] at z
      rcases z with z | z | z
      · omega
      · omega
      · exact numL_free (s := 32) (by omega) z
    · cases h
theorem good_e {q : Int × Int} {w : Sg} (h : w ∈ eL q) : goodW w := by
  unfold eL at h
  split at h
  · cases h
  · rw [List.mem_singleton.mp h]
    refine ⟨by simp [eW], fun z => ?_, fun a r e => by injection e with e _; omega⟩
    unfold eW at z
    simp only [List.mem_cons, List.mem_append, List.not_mem_nil, or_false] at z
    rcases z with z | z | z | z | z
    · omega
    · omega
    · omega
    · have := eIn_signs z
      omega
    · omega
theorem size_ne (c : Int × Int) : ∃ a r, sizeL c = a :: r ∧ 48 ≤ a ∧ a ≤ 57 := by
  cases e : numL c.1.natAbs with
  | nil => exact absurd e (numL_ne _)
  | cons a r =>
    have ha := (show NumText.AllDigits (a :: r) by rw [← e]; exact numL_digits _).head
    unfold sizeL
    rw [e]
    split
    · exact ⟨a, r, rfl, ha⟩
    · exact ⟨a, _, rfl, ha⟩
theorem good_size (c : Int × Int) : goodW (sizeL c) := by
  obtain ⟨a, r, e, h1, h2⟩ := size_ne c
  refine ⟨by rw [e]; simp, fun z => ?_, fun a' r' e' => ?_⟩
  · have := size_signs z
    omega
  · rw [e] at e'
    injection e' with e1 _
    omega
theorem good_wrd {t : T4} {w : Sg} (h : w ∈ wrdL t) : goodW w := by
  have hb : ∀ w ∈ behL t.2.1 t.2.2, goodW w := fun w h => by
    rcases List.mem_append.mp h with h | h
    · exact good_pow h
    · exact good_e h
  unfold wrdL at h
  split at h
  · exact hb _ h
  · rcases List.mem_cons.mp h with rfl | h
    · exact good_size _
    · exact hb _ h
theorem wrd_ne (t : T4) : wrdL t ≠ [] := by
  unfold wrdL
  split
  · rename_i h
    exact h.2.2
  · simp
theorem spl_tm (t : T4) : spl [32] 0 [] (tmL t) = wrdL t := spl_join (wrd_ne t) fun p hp => (good_wrd hp).2.1
end Nm

/-! The law's reading of a piece and the program's: both find just the terms that are written so. -/
namespace Nm
open PySem TL
def takeK (ws : List Sg) : Int × List Sg := match ws with | w :: r => (match powR w with | some k => (k, r) | none => (0, w :: r)) | [] => (0, [])
def takeQ (ws : List Sg) : (Int × Int) × List Sg := match ws with | w :: r => (match eR w with | some q => (q, r) | none => ((0, 1), w :: r)) | [] => ((0, 1), [])
theorem takeK_eq (ws : List Sg) : (0 ≤ (takeK ws).1 ∧ (takeK ws).1 ≤ 3) ∧ ws = powL (takeK ws).1 ++ (takeK ws).2 := by
  unfold takeK
  split
  · rename_i w r
    cases e : powR w with
    | none => exact ⟨⟨by show (0 : Int) ≤ 0; omega, by show (0 : Int) ≤ 3; omega⟩, rfl⟩
    | some k =>
      obtain ⟨⟨h1, h2⟩, h3⟩ := powR_iff.mp e
      exact ⟨⟨by show 0 ≤ k; omega, h2⟩, by show w :: r = powL k ++ r; rw [h3]; rfl⟩
  · exact ⟨⟨by show (0 : Int) ≤ 0; omega, by show (0 : Int) ≤ 3; omega⟩, rfl⟩
theorem rq0 : RQ 0 1 := ⟨by omega, by omega, by decide, by omega, by omega⟩
theorem takeQ_eq (ws : List Sg) : RQ (takeQ ws).1.1 (takeQ ws).1.2 ∧ ws = eL (takeQ ws).1 ++ (takeQ ws).2 := by
  unfold takeQ
  split
  · rename_i w r
    cases e : eR w with
    | none => exact ⟨rq0, rfl⟩
    | some q =>
      obtain ⟨⟨h1, h2⟩, h3⟩ := eR_iff.mp e
      refine ⟨h1, ?_⟩
      show w :: r = eL q ++ r
      unfold eL
      rw [if_neg h2, h3]
      rfl
  · exact ⟨rq0, rfl⟩
theorem powR_e (q : Int × Int) : powR (eW q) = none := by
  unfold powR eW
  rw [if_neg (by intro e; injection e with e _; omega), if_neg (by intro e; injection e with e _; omega), if_neg (by intro e; injection e with e _; omega)]
theorem takeK_of {k : Int} {q : Int × Int} (h : 0 ≤ k ∧ k ≤ 3) : takeK (powL k ++ eL q) = (k, eL q) := by
  by_cases k0 : k = 0
  · subst k0
    show takeK (eL q) = _
    unfold eL
    split
    · rfl
    · unfold takeK
      dsimp only
      rw [powR_e]
  · have h1 : 1 ≤ k ∧ k ≤ 3 := by omega
    have : ∃ w, powL k = [w] := by
      have : k = 1 ∨ k = 2 ∨ k = 3 := by omega
      rcases this with rfl | rfl | rfl
      · exact ⟨_, powL_1⟩
      · exact ⟨_, powL_2⟩
      · exact ⟨_, powL_3⟩
    obtain ⟨w, e⟩ := this
    rw [e]
    unfold takeK
    dsimp only [List.cons_append, List.nil_append]
    rw [powR_iff.mpr ⟨h1, e⟩]
theorem q01 {q : Int × Int} (h : RQ q.1 q.2) (h0 : q.1 = 0) : q = (0, 1) := by
  obtain ⟨h1, _, h3, _, _⟩ := h
  rw [h0] at h3
  refine Prod.ext h0 ?_
  show q.2 = 1
  have : (Int.gcd 0 q.2) = q.2.natAbs := by simp
  omega
theorem takeQ_of {q : Int × Int} (h : RQ q.1 q.2) : takeQ (eL q) = (q, []) := by
  unfold eL
  split
  · rename_i h0
    rw [q01 h h0]
    rfl
  · rename_i h0
    unfold takeQ
    dsimp only
    rw [eR_iff.mpr ⟨⟨h, h0⟩, rfl⟩]
/-! ### the law's -/
def behR (w0 : Sg) (ws : List Sg) : List Sg := if (szR w0).isSome then ws else w0 :: ws
def lawW (p w0 : Sg) (ws : List Sg) : Option T4 :=
  if szR w0 = some (1, 1) ∧ ws ≠ [] then none else
  if (takeQ (takeK (behR w0 ws)).2).2 ≠ [] ∨ w0 = [] ∨ ((szR w0).getD (1, 1) = (1, 1) ∧ (takeK (behR w0 ws)).1 = 0 ∧ (takeQ (takeK (behR w0 ws)).2).1 = (0, 1) ∧ p ≠ [49]) then none else
  some ((szR w0).getD (1, 1), (takeK (behR w0 ws)).1, (takeQ (takeK (behR w0 ws)).2).1)
def lawP (p : Sg) : Option T4 := lawW p ((spl [32] 0 [] p).headD []) (spl [32] 0 [] p).tail
theorem pv11 : PV (1, 1) := ⟨by show (0 : Int) < 1; omega, by show (0 : Int) < 1; omega, by decide, by show (1 : Int) < 10 ^ 30; decide, by show (1 : Int) < 10 ^ 30; decide⟩
theorem size11 : sizeL (1, 1) = [49] := by
  show numL 1 = _
  exact num1
theorem beh_nil {k : Int} {q : Int × Int} (h : 0 ≤ k ∧ k ≤ 3) (h2 : RQ q.1 q.2) : behL k q = [] ↔ k = 0 ∧ q = (0, 1) := by
  unfold behL
  rw [List.append_eq_nil_iff]
  constructor
  · rintro ⟨h3, h4⟩
    refine ⟨?_, ?_⟩
    · unfold powL at h3
      split at h3
      · cases h3
      · split at h3
        · cases h3
        · omega
    · unfold eL at h4
      split at h4
      · rename_i e
        exact q01 h2 e
      · cases h4
  · rintro ⟨rfl, rfl⟩
    exact ⟨rfl, rfl⟩
theorem szR_beh {w : Sg} {r : List Sg} {k : Int} {q : Int × Int} (h : behL k q = w :: r) : szR w = none := by
  cases e : szR w with
  | none => rfl
  | some c =>
    obtain ⟨h1, h2⟩ := szR_iff.mp e
    obtain ⟨a, x, e1, h3, h4⟩ := size_head h1
    rw [h2] at e1
    have hm : w ∈ behL k q := by rw [h]; exact List.mem_cons_self
    have hw : w.head? = some 116 ∨ w.head? = some 101 := by
      unfold behL at hm
      rcases List.mem_append.mp hm with hm | hm
      · unfold powL at hm
        split at hm
        · rw [List.mem_singleton.mp hm]; exact .inl rfl
        · split at hm
          · rw [List.mem_singleton.mp hm]; exact .inl rfl
          · cases hm
      · unfold eL at hm
        split at hm
        · cases hm
        · rw [List.mem_singleton.mp hm]; exact .inr rfl
    rw [e1] at hw
    rcases hw with hw | hw <;> (injection hw with hw; omega)
theorem law_iff {p : Sg} {t : T4} : lawP p = some t ↔ TV t ∧ tmL t = p := by
  constructor
  · intro h
    unfold lawP at h
    have hj := join_spl 32 p []
    have hn := spl_ne [32] p 0 []
    generalize spl [32] 0 [] p = W at h hj hn
    rw [List.nil_append] at hj
    obtain ⟨w0, ws, rfl⟩ : ∃ w0 ws, W = w0 :: ws := by
      cases W with
      | nil => exact absurd rfl hn
      | cons a r => exact ⟨a, r, rfl⟩
    have h : lawW p w0 ws = some t := h
    unfold lawW at h
    split at h
    · cases h
    · rename_i n1
      split at h
      · cases h
      · rename_i n2
        obtain rfl := Option.some.inj h
        have n21 := fun z => n2 (.inl z)
        have n23 := fun z => n2 (.inr (.inr z))
        cases e : szR w0 with
        | some c =>
          have eb : behR w0 ws = ws := by unfold behR; rw [e]; rfl
          rw [eb] at n21 n23 ⊢
          rw [e] at n1 n23
          simp only [Option.getD_some] at n23 ⊢
          obtain ⟨c1, c2⟩ := szR_iff.mp e
          obtain ⟨k1, k2⟩ := takeK_eq ws
          obtain ⟨q1, q2⟩ := takeQ_eq (takeK ws).2
          have q3 : (takeQ (takeK ws).2).2 = [] := by
            by_cases z : (takeQ (takeK ws).2).2 = []
            · exact z
            · exact absurd z n21
          rw [q3, List.append_nil] at q2
          have hw : ws = behL (takeK ws).1 (takeQ (takeK ws).2).1 := by
            unfold behL
            rw [← q2]
            exact k2
          refine ⟨⟨c1, k1, q1⟩, ?_⟩
          unfold tmL wrdL
          dsimp only
          rw [← hw, c2, if_neg, hj]
          rintro ⟨z1, z2, z3⟩
          refine n1 ⟨?_, z3⟩
          congr 1
          exact Prod.ext (by have := c1.1; show c.1 = 1; omega) z2
        | none =>
          have eb : behR w0 ws = w0 :: ws := by unfold behR; rw [e]; rfl
          rw [eb] at n21 n23 ⊢
          rw [e] at n1 n23
          simp only [Option.getD_none] at n23 ⊢
          obtain ⟨k1, k2⟩ := takeK_eq (w0 :: ws)
          obtain ⟨q1, q2⟩ := takeQ_eq (takeK (w0 :: ws)).2
          have q3 : (takeQ (takeK (w0 :: ws)).2).2 = [] := by
            by_cases z : (takeQ (takeK (w0 :: ws)).2).2 = []
            · exact z
            · exact absurd z n21
          rw [q3, List.append_nil] at q2
          have hw : w0 :: ws = behL (takeK (w0 :: ws)).1 (takeQ (takeK (w0 :: ws)).2).1 := by
            unfold behL
            rw [← q2]
            exact k2
          refine ⟨⟨pv11, k1, q1⟩, ?_⟩
          unfold tmL wrdL
          dsimp only
          rw [← hw, if_pos ⟨rfl, rfl, by simp⟩, hj]
  · rintro ⟨⟨h1, h2, h3⟩, rfl⟩
    show lawW (tmL t) ((spl [32] 0 [] (tmL t)).headD []) (spl [32] 0 [] (tmL t)).tail = some t
    rw [spl_tm]
    obtain ⟨c, k, q⟩ := t
    dsimp only at h1 h2 h3
    unfold wrdL
    dsimp only
    have tk : takeK (behL k q) = (k, eL q) := takeK_of h2
    have tq : takeQ (eL q) = (q, []) := takeQ_of h3
    split
    · rename_i hc
      obtain ⟨c1, c2, c3⟩ := hc
      have ec : c = (1, 1) := Prod.ext (by have := h1.1; show c.1 = 1; omega) c2
      subst ec
      cases eb : behL k q with
      | nil => exact absurd eb c3
      | cons w r =>
        have e0 := szR_beh eb
        have tk' := tk
        rw [eb] at tk'
        have ebr : behR w r = w :: r := by unfold behR; rw [e0]; rfl
        show lawW _ w r = _
        unfold lawW
        rw [ebr, e0, if_neg (by rintro ⟨z, _⟩; cases z)]
        simp only [Option.getD_none, tk', tq]
        rw [if_neg]
        rintro (z | z | ⟨_, z1, z2, _⟩)
        · exact z rfl
        · have : goodW w := good_wrd (t := ((1, 1), k, q)) (by unfold wrdL; dsimp only; rw [if_pos ⟨rfl, rfl, c3⟩, eb]; exact List.mem_cons_self)
          exact this.1 z
        · exact c3 ((beh_nil h2 h3).mpr ⟨z1, z2⟩)
    · rename_i hc
      have es := szR_iff.mpr ⟨h1, rfl⟩
      have ebr : behR (sizeL c) (behL k q) = behL k q := by unfold behR; rw [es]; rfl
      show lawW _ (sizeL c) (behL k q) = _
      unfold lawW
      rw [ebr, es, if_neg (by
        rintro ⟨z, z2⟩
        have z := Option.some.inj z
        subst z
        exact hc ⟨rfl, rfl, z2⟩)]
      simp only [Option.getD_some, tk, tq]
      rw [if_neg]
      rintro (z | z | ⟨z0, z1, z2, z3⟩)
      · exact z rfl
      · exact (good_size c).1 z
      · subst z0 z1 z2
        exact z3 (by unfold tmL wrdL; dsimp only; rw [if_neg (by rintro ⟨_, _, z⟩; exact z rfl)]; exact size11)
/-! ### the program's -/
def fewB (w : Sg) : Bool := decide (0 < w.length) && w.all dig && decide (w.length ≤ 30)
def szP (w : Sg) : Option (Int × Int) :=
  match par [47] [] w with
  | none => if fewB w = true then some ((NumText.digitsVal w : Nat), 1) else none
  | some (a, b) => if fewB a = true ∧ fewB b = true then some ((NumText.digitsVal a : Nat), (NumText.digitsVal b : Nat)) else none
theorem few_lt {w : Sg} (h : fewB w = true) : NumText.digitsVal w < 10 ^ 30 := by
  unfold fewB at h
  simp only [Bool.and_eq_true, decide_eq_true_eq] at h
  exact Nat.lt_of_lt_of_le (digitsVal_lt (all_dig.mp h.1.2)) (Nat.pow_le_pow_right (by decide) h.2)
theorem szP_b {w : Sg} {c : Int × Int} (h : szP w = some c) : 0 ≤ c.1 ∧ c.1 < 10 ^ 30 ∧ 0 ≤ c.2 ∧ c.2 < 10 ^ 30 := by
  unfold szP at h
  split at h
  · split at h
    · rename_i f
      obtain rfl := Option.some.inj h
      have := few_lt f
      exact ⟨Int.natCast_nonneg _, by show ((NumText.digitsVal w : Nat) : Int) < 10 ^ 30; omega, by show (0 : Int) ≤ 1; omega, by show (1 : Int) < 10 ^ 30; decide⟩
    · cases h
  · rename_i a b _
    split at h
    · rename_i f
      obtain rfl := Option.some.inj h
      have f1 := few_lt f.1
      have f2 := few_lt f.2
      exact ⟨Int.natCast_nonneg _, by show ((NumText.digitsVal a : Nat) : Int) < 10 ^ 30; omega, Int.natCast_nonneg _, by show ((NumText.digitsVal b : Nat) : Int) < 10 ^ 30; omega⟩
    · cases h
theorem few_num {n : Nat} (h : n < 10 ^ 30) : fewB (numL n) = true := by
  unfold fewB
  simp only [Bool.and_eq_true, decide_eq_true_eq]
  refine ⟨⟨?_, all_dig.mpr (numL_digits n)⟩, (numL_small (by decide)).mpr h⟩
  cases e : numL n with
  | nil => exact absurd e (numL_ne n)
  | cons a r => simp
theorem szP_size {c : Int × Int} (h : PV c) : szP (sizeL c) = some c := by
  obtain ⟨h1, h2, h3, h4, h5⟩ := h
  unfold szP
  by_cases e : c.2 = 1
  · have es : sizeL c = numL c.1.natAbs := if_pos e
    rw [es, par_none1 (num_free _)]
    dsimp only
    rw [if_pos (few_num (by omega)), numL_val]
    congr 1
    exact Prod.ext (by show (c.1.natAbs : Int) = c.1; omega) e.symm
  · have z := par_part1 (s := 47) (S := []) (p := numL c.1.natAbs) (rest := numL c.2.natAbs) (acc := []) (num_free _)
    have z : par [47] [] (numL c.1.natAbs ++ 47 :: numL c.2.natAbs) = some (numL c.1.natAbs, numL c.2.natAbs) := z
    have es : sizeL c = numL c.1.natAbs ++ 47 :: numL c.2.natAbs := if_neg e
    rw [es, z]
    dsimp only
    rw [if_pos ⟨few_num (by omega), few_num (by omega)⟩, numL_val, numL_val]
    congr 1
    exact Prod.ext (by show (c.1.natAbs : Int) = c.1; omega) (by show (c.2.natAbs : Int) = c.2; omega)
def rateP (w : Sg) : Option (Int × Int) := match w with
  | 45 :: r => (match szP r with | some z => some (-z.1, z.2) | none => none)
  | w => szP w
theorem rateP_in {q : Int × Int} (h : RQ q.1 q.2) (h0 : q.1 ≠ 0) : rateP (eIn q) = some q := by
  obtain ⟨h1, h2, h3, h4, h5⟩ := h
  have b1 : (q.1.natAbs : Int) < 10 ^ 30 := Int.lt_of_le_of_lt (show (q.1.natAbs : Int) ≤ 16 by omega) (by decide)
  have b2 : q.2 < 10 ^ 30 := Int.lt_of_le_of_lt h2 (by decide)
  have pv : PV ((q.1.natAbs : Int), q.2) := ⟨by show (0 : Int) < q.1.natAbs; omega, by show 0 < q.2; omega, h3, b1, b2⟩
  have es : sizeL q = sizeL ((q.1.natAbs : Int), q.2) := by
    unfold sizeL
    simp
  have ez := szP_size pv
  rw [← es] at ez
  unfold eIn
  by_cases hn : q.1 < 0
  · rw [if_pos hn]
    show (match szP (sizeL q) with | some z => some (-z.1, z.2) | none => none) = some q
    rw [ez]
    show some (-(q.1.natAbs : Int), q.2) = some q
    congr 1
    exact Prod.ext (by show -(q.1.natAbs : Int) = q.1; omega) rfl
  · rw [if_neg hn, List.nil_append]
    obtain ⟨a, r, e, ha, _⟩ := size_head pv
    rw [← es] at e
    have : rateP (sizeL q) = szP (sizeL q) := by
      rw [e]
      unfold rateP
      split
      · rename_i z ez
        injection ez with e5 _
        omega
      · rfl
    rw [this, ez]
    congr 1
    exact Prod.ext (by show (q.1.natAbs : Int) = q.1; omega) rfl
def isE (w : Sg) : Bool := w.take 3 == [101, 94, 40] && w.getLast? == some 41
def takeE (ws : List Sg) : Option (Int × Int) × List Sg := match ws with | w :: r => if isE w = true then (rateP ((w.drop 3).dropLast), r) else (some (0, 1), w :: r) | [] => (some (0, 1), [])
def okT (t : T4) : Prop := (0 < t.1.2 ∧ Int.gcd t.1.1 t.1.2 = 1 ∧ t.1.1 ≠ 0) ∧ (0 ≤ t.2.1 ∧ t.2.1 ≤ 3) ∧ RQ t.2.2.1 t.2.2.2
def headDig (w : Sg) : Bool := match w with | c :: _ => Unicode.isDigit c | [] => false
def takeC (W : List Sg) : Option (Int × Int) × List Sg := if headDig (W.headD []) = true then (szP (W.headD []), W.tail) else (some (1, 1), W)
open Classical in
noncomputable def bareP (b : Sg) : Option T4 :=
  let cb := takeC (spl [32] 0 [] b)
  let kb := takeK cb.2
  let qb := takeE kb.2
  if qb.2 ≠ [] then none else
  match cb.1, qb.1 with
  | some c, some q => if okT (c, kb.1, q) then (if tmL (c, kb.1, q) = b then some (c, kb.1, q) else none) else none
  | _, _ => none
theorem dig_uni : ∀ c : Nat, c < 58 → 48 ≤ c → Unicode.isDigit c = true := by decide +kernel
theorem dig_t : Unicode.isDigit 116 = false := by decide +kernel
theorem dig_e : Unicode.isDigit 101 = false := by decide +kernel
theorem head_beh {w : Sg} {r : List Sg} {k : Int} {q : Int × Int} (h : behL k q = w :: r) : headDig w = false := by
  have hm : w ∈ behL k q := by rw [h]; exact List.mem_cons_self
  unfold behL at hm
  rcases List.mem_append.mp hm with hm | hm
  · unfold powL at hm
    split at hm
    · rw [List.mem_singleton.mp hm]; exact dig_t
    · split at hm
      · rw [List.mem_singleton.mp hm]; exact dig_t
      · cases hm
  · unfold eL at hm
    split at hm
    · cases hm
    · rw [List.mem_singleton.mp hm]; exact dig_e
theorem takeE_of {q : Int × Int} (h : RQ q.1 q.2) : takeE (eL q) = (some q, []) := by
  unfold eL
  split
  · rename_i h0
    rw [q01 h h0]
    rfl
  · rename_i h0
    have e1 : isE (eW q) = true := by
      have e3 : eW q = (101 :: 94 :: 40 :: eIn q) ++ [41] := by simp [eW]
      have e4 : (eW q).getLast? = some 41 := by rw [e3, List.getLast?_append]; rfl
      unfold isE
      rw [e4]
      rfl
    unfold takeE
    dsimp only
    rw [if_pos e1]
    have e2 : ((eW q).drop 3).dropLast = eIn q := by
      show (eIn q ++ [41]).dropLast = eIn q
      exact List.dropLast_concat
    rw [e2, rateP_in h h0]
theorem bare_iff {b : Sg} {t : T4} : bareP b = some t ↔ TV t ∧ tmL t = b := by
  constructor
  · intro h
    unfold bareP at h
    dsimp only at h
    have hc : ∀ c, (takeC (spl [32] 0 [] b)).1 = some c → 0 ≤ c.1 ∧ c.1 < 10 ^ 30 ∧ 0 ≤ c.2 ∧ c.2 < 10 ^ 30 := fun c z => by
      unfold takeC at z
      split at z
      · exact szP_b z
      · obtain rfl := Option.some.inj z
        exact ⟨by show (0 : Int) ≤ 1; omega, by show (1 : Int) < 10 ^ 30; decide, by show (0 : Int) ≤ 1; omega, by show (1 : Int) < 10 ^ 30; decide⟩
    generalize takeC (spl [32] 0 [] b) = cb at h hc
    split at h
    · cases h
    · split at h
      · rename_i c q e1 e2
        split at h
        · rename_i ok
          split at h
          · rename_i et
            obtain rfl := Option.some.inj h
            obtain ⟨⟨o1, o2, o3⟩, o4, o5⟩ := ok
            obtain ⟨c1, c2, c3, c4⟩ := hc c e1
            have o3 : c.1 ≠ 0 := o3
            exact ⟨⟨⟨by show 0 < c.1; omega, o1, o2, c2, c4⟩, o4, o5⟩, et⟩
          · cases h
        · cases h
      · cases h
  · rintro ⟨⟨h1, h2, h3⟩, rfl⟩
    have key : ∀ cb, takeC (spl [32] 0 [] (tmL t)) = cb → cb = (some t.1, behL t.2.1 t.2.2) → bareP (tmL t) = some t := by
      intro cb e1 e2
      unfold bareP
      dsimp only
      rw [e1, e2]
      dsimp only
      have tk : takeK (behL t.2.1 t.2.2) = (t.2.1, eL t.2.2) := takeK_of h2
      rw [tk, takeE_of h3]
      dsimp only
      rw [if_neg (by simp), if_pos ⟨⟨h1.2.1, h1.2.2.1, by have := h1.1; show t.1.1 ≠ 0; omega⟩, h2, h3⟩, if_pos rfl]
    refine key _ rfl ?_
    rw [spl_tm]
    unfold takeC wrdL
    split
    · rename_i hc
      obtain ⟨c1, c2, c3⟩ := hc
      have ec : t.1 = (1, 1) := Prod.ext (by have := h1.1; show t.1.1 = 1; omega) c2
      rw [ec]
      cases eb : behL t.2.1 t.2.2 with
      | nil => exact absurd eb c3
      | cons w r =>
        rw [List.headD_cons, head_beh eb]
        rfl
    · obtain ⟨a, r, e, ha, hb⟩ := size_head h1
      rw [List.headD_cons, List.tail_cons]
      have : headDig (sizeL t.1) = true := by
        rw [e]
        exact dig_uni a (by omega) (by omega)
      rw [if_pos this, szP_size h1]
theorem bare_law (b : Sg) : bareP b = lawP b := by
  cases e : lawP b with
  | some t => exact bare_iff.mpr (law_iff.mp e)
  | none =>
    cases e2 : bareP b with
    | none => rfl
    | some t =>
      rw [law_iff.mpr (bare_iff.mp e2)] at e
      cases e
end Nm

/-! Pieces, the reading of a text, the text of a curve read back. -/
namespace Nm
open PySem TL
def cut3 (l : Sg) : Option Bool := match l with
  | 32 :: 43 :: 32 :: _ => some false
  | 32 :: 45 :: 32 :: _ => some true
  | _ => none
def pcs : Nat → Sg → Bool → Sg → List (Sg × Bool)
  | _, acc, b, [] => [(acc, b)]
  | 0, acc, b, c :: r => match cut3 (c :: r) with
    | some b' => (acc, b) :: pcs 2 [] b' r
    | none => pcs 0 (acc ++ [c]) b r
  | k + 1, acc, b, _ :: r => pcs k acc b r
theorem pcs_nil (k : Nat) (acc : Sg) (b : Bool) : pcs k acc b [] = [(acc, b)] := by cases k <;> rfl
theorem pcs_cut {c : Nat} {r acc : Sg} {b b' : Bool} (h : cut3 (c :: r) = some b') : pcs 0 acc b (c :: r) = (acc, b) :: pcs 0 [] b' (r.drop 2) := by
  show (match cut3 (c :: r) with | some b' => (acc, b) :: pcs 2 [] b' r | none => pcs 0 (acc ++ [c]) b r) = _
  rw [h]
  have pass : ∀ (k : Nat) (l : Sg), pcs k [] b' l = pcs 0 [] b' (l.drop k) := by
    intro k
    induction k with
    | zero => intro l; rfl
    | succ k ih =>
      intro l
      cases l with
      | nil => rw [List.drop_nil, pcs_nil, pcs_nil]
      | cons x l => exact ih l
  rw [← pass 2 r]
theorem pcs_go {c : Nat} {r acc : Sg} {b : Bool} (h : cut3 (c :: r) = none) : pcs 0 acc b (c :: r) = pcs 0 (acc ++ [c]) b r := by
  show (match cut3 (c :: r) with | some b' => (acc, b) :: pcs 2 [] b' r | none => pcs 0 (acc ++ [c]) b r) = _
  rw [h]
theorem pcs_ne : ∀ (l : Sg) (k : Nat) (acc : Sg) (b : Bool), pcs k acc b l ≠ []
  | [], k, acc, b => by rw [pcs_nil]; simp
  | c :: r, 0, acc, b => by
    cases h : cut3 (c :: r) with
    | some b' => rw [pcs_cut h]; simp
    | none => rw [pcs_go h]; exact pcs_ne r 0 _ _
  | c :: r, k + 1, acc, b => pcs_ne r k acc b
/-- each blank has a sign other than + and - behind it -/
def okB : Sg → Prop
  | [] => True
  | c :: r => (c = 32 → ∃ d r', r = d :: r' ∧ d ≠ 43 ∧ d ≠ 45) ∧ okB r
theorem cut3_no {c : Nat} {r : Sg} (h : c = 32 → ∃ d r', r = d :: r' ∧ d ≠ 43 ∧ d ≠ 45) : cut3 (c :: r) = none := by
  unfold cut3
  split
  · rename_i r' e
    injection e with e1 e2
    obtain ⟨d, x, e3, h1, h2⟩ := h e1
    rw [e2] at e3
    injection e3 with e3 _
    omega
  · rename_i r' e
    injection e with e1 e2
    obtain ⟨d, x, e3, h1, h2⟩ := h e1
    rw [e2] at e3
    injection e3 with e3 _
    omega
  · rfl
theorem pcs_ok : ∀ {l : Sg} (acc : Sg) (b : Bool) (rest : Sg), okB l → pcs 0 acc b (l ++ rest) = pcs 0 (acc ++ l) b rest
  | [], acc, b, rest, _ => by simp
  | c :: r, acc, b, rest, h => by
    obtain ⟨h1, h2⟩ := h
    rw [List.cons_append, pcs_go (cut3_no fun e => by
      obtain ⟨d, x, e2, h3, h4⟩ := h1 e
      exact ⟨d, x ++ rest, by rw [e2]; rfl, h3, h4⟩), pcs_ok (acc ++ [c]) b rest h2]
    simp
theorem okB_app : ∀ {l m : Sg}, okB l → okB m → okB (l ++ m)
  | [], m, _, h => h
  | c :: r, m, ⟨h1, h2⟩, h => ⟨fun e => by
      obtain ⟨d, x, e2, h3, h4⟩ := h1 e
      exact ⟨d, x ++ m, by rw [e2]; rfl, h3, h4⟩, okB_app h2 h⟩
theorem okB_free : ∀ {l : Sg}, 32 ∉ l → okB l
  | [], _ => True.intro
  | c :: r, h => ⟨fun e => absurd (by rw [e]; exact List.mem_cons_self) h, okB_free fun z => h (List.mem_cons_of_mem _ z)⟩
theorem okB_join : ∀ {ws : List Sg}, (∀ w ∈ ws, goodW w) → okB (joinL [32] ws)
  | [], _ => True.intro
  | [w], h => okB_free (h w (List.mem_singleton.mpr rfl)).2.1
  | w :: v :: r, h => by
    show okB (w ++ (32 :: joinL [32] (v :: r)))
    have hv := h v (by simp)
    have hj := okB_join (ws := v :: r) fun x hx => h x (List.mem_cons_of_mem _ hx)
    refine okB_app (okB_free (h w List.mem_cons_self).2.1) ⟨fun _ => ?_, hj⟩
    cases ev : v with
    | nil => exact absurd ev hv.1
    | cons a x =>
      obtain ⟨h1, h2⟩ := hv.2.2 a x ev
      cases r with
      | nil => exact ⟨a, x, rfl, h1, h2⟩
      | cons y r => exact ⟨a, _, rfl, h1, h2⟩
theorem okB_tm (t : T4) : okB (tmL t) := okB_join fun _ h => good_wrd h
theorem tm_head (t : T4) : ∃ a r, tmL t = a :: r ∧ a ≠ 45 := by
  unfold tmL
  cases e : wrdL t with
  | nil => exact absurd e (wrd_ne t)
  | cons w ws =>
    have hw := good_wrd (t := t) (w := w) (by rw [e]; exact List.mem_cons_self)
    cases ew : w with
    | nil => exact absurd ew hw.1
    | cons a r =>
      have := (hw.2.2 a r ew).2
      cases ws with
      | nil => exact ⟨a, r, rfl, this⟩
      | cons y ws => exact ⟨a, _, rfl, this⟩
/-! ### the text of a curve -/
def sepL (t : T4) : Sg := if t.1.1 < 0 then [32, 45, 32] else [32, 43, 32]
def restL : List T4 → Sg
  | [] => []
  | t :: r => sepL t ++ (tmL t ++ restL r)
def textL : List T4 → Sg
  | [] => [48]
  | t :: r => (if t.1.1 < 0 then [45] else []) ++ (tmL t ++ restL r)
theorem pcs_rest : ∀ (ts : List T4) (acc : Sg) (b : Bool), pcs 0 acc b (restL ts) = (acc, b) :: ts.map fun t => (tmL t, decide (t.1.1 < 0))
  | [], acc, b => pcs_nil 0 acc b
  | t :: r, acc, b => by
    have key : ∀ x : Nat, ∀ b' : Bool, cut3 (32 :: x :: 32 :: (tmL t ++ restL r)) = some b' → pcs 0 acc b (32 :: x :: 32 :: (tmL t ++ restL r)) = (acc, b) :: (tmL t, b') :: r.map fun t => (tmL t, decide (t.1.1 < 0)) := fun x b' h => by
      rw [pcs_cut h]
      show (acc, b) :: pcs 0 [] b' (tmL t ++ restL r) = _
      rw [pcs_ok _ _ _ (okB_tm t), pcs_rest r]
      rfl
    show pcs 0 acc b (sepL t ++ (tmL t ++ restL r)) = (acc, b) :: (tmL t, decide (t.1.1 < 0)) :: r.map fun t => (tmL t, decide (t.1.1 < 0))
    unfold sepL
    by_cases h : t.1.1 < 0
    · rw [if_pos h, decide_eq_true h]
      exact key 45 true rfl
    · rw [if_neg h, decide_eq_false h]
      exact key 43 false rfl
theorem pcs_text (t : T4) (r : List T4) : pcs 0 [] false (textL (t :: r)) = ((if t.1.1 < 0 then [45] else []) ++ tmL t, false) :: r.map fun t => (tmL t, decide (t.1.1 < 0)) := by
  show pcs 0 [] false ((if t.1.1 < 0 then [45] else []) ++ (tmL t ++ restL r)) = _
  have h45 : okB [45] := ⟨fun e => by omega, True.intro⟩
  have ho : okB ((if t.1.1 < 0 then [45] else []) ++ tmL t) := by
    split
    · exact okB_app h45 (okB_tm t)
    · exact okB_tm t
  rw [← List.append_assoc, pcs_ok _ _ _ ho, pcs_rest, List.nil_append]
/-! ### reading -/
def sg4 (below : Bool) (t : T4) : T4 := if below then ((-t.1.1, t.1.2), t.2) else t
def fst4 (i : Nat) (p : Sg × Bool) : Sg × Bool := if i = 0 ∧ p.1.head? = some 45 then (p.1.tail, true) else p
def one4 (i : Nat) (p : Sg × Bool) : Option T4 := (lawP (fst4 i p).1).map (sg4 (fst4 i p).2)
def ok4 (made : List T4) (t : T4) : Prop := ∀ m, made.getLast? = some m → ltK (Tm.key m) (Tm.key t)
open Classical in
noncomputable def rdGo : Nat → List T4 → List (Sg × Bool) → Sum Nat (List T4)
  | _, made, [] => .inr made
  | i, made, p :: r => match one4 i p with
    | none => .inl i
    | some t => if i = 8 ∨ ¬ ok4 made t then .inl i else rdGo (i + 1) (made ++ [t]) r
noncomputable def readF (l : Sg) : Sum Nat (List T4) := if l = [48] then .inr [] else rdGo 0 [] (pcs 0 [] false l)
theorem sg_abs {t : T4} (h : 0 < t.1.2) : sg4 (decide (t.1.1 < 0)) ((((t.1.1.natAbs : Int)), t.1.2), t.2) = t := by
  unfold sg4
  by_cases c : t.1.1 < 0
  · rw [decide_eq_true c, if_pos rfl]
    exact Prod.ext (Prod.ext (by show -(t.1.1.natAbs : Int) = t.1.1; omega) rfl) rfl
  · rw [decide_eq_false c, if_neg (by simp)]
    exact Prod.ext (Prod.ext (by show (t.1.1.natAbs : Int) = t.1.1; omega) rfl) rfl
theorem tm_abs (t : T4) : tmL (((t.1.1.natAbs : Int), t.1.2), t.2) = tmL t := by
  unfold tmL wrdL sizeL
  simp
/-- a right term, its c of at most thirty figures on each side -/
def TR (t : T4) : Prop := TV (((t.1.1.natAbs : Int), t.1.2), t.2)
theorem law_tm {t : T4} (h : TR t) : lawP (tmL t) = some (((t.1.1.natAbs : Int), t.1.2), t.2) := law_iff.mpr ⟨h, tm_abs t⟩
theorem one_rest {i : Nat} {t : T4} (h : TR t) (h0 : i ≠ 0) : one4 i (tmL t, decide (t.1.1 < 0)) = some t := by
  unfold one4 fst4
  rw [if_neg (fun z => h0 z.1)]
  show (lawP (tmL t)).map _ = _
  rw [law_tm h]
  exact congrArg some (sg_abs h.1.2.1)
theorem one_first {t : T4} (h : TR t) : one4 0 ((if t.1.1 < 0 then [45] else []) ++ tmL t, false) = some t := by
  unfold one4 fst4
  by_cases c : t.1.1 < 0
  · rw [if_pos c, if_pos ⟨rfl, rfl⟩]
    show (lawP (tmL t)).map (sg4 true) = _
    rw [law_tm h]
    have z := sg_abs (t := t) h.1.2.1
    rw [decide_eq_true c] at z
    exact congrArg some z
  · obtain ⟨a, r, e, ha⟩ := tm_head t
    rw [if_neg c, if_neg (by
      rintro ⟨_, z⟩
      rw [e] at z
      injection z with z
      exact ha z)]
    show (lawP (tmL t)).map (sg4 false) = _
    rw [law_tm h]
    have z := sg_abs (t := t) h.1.2.1
    rw [decide_eq_false c] at z
    exact congrArg some z
open Classical in
theorem rd_rest : ∀ (ts : List T4) (i : Nat) (made : List T4), i ≠ 0 → i + ts.length ≤ 8 → (∀ t ∈ ts, TR t) → (made ++ ts).Pairwise (fun p q => ltK (Tm.key p) (Tm.key q)) → rdGo i made (ts.map fun t => (tmL t, decide (t.1.1 < 0))) = .inr (made ++ ts)
  | [], i, made, _, _, _, _ => by rw [List.append_nil]; rfl
  | t :: r, i, made, h0, hl, ht, pw => by
    show (match one4 i (tmL t, decide (t.1.1 < 0)) with
      | none => Sum.inl i
      | some t => if i = 8 ∨ ¬ ok4 made t then .inl i else rdGo (i + 1) (made ++ [t]) (r.map fun t => (tmL t, decide (t.1.1 < 0)))) = _
    rw [one_rest (ht t List.mem_cons_self) h0]
    dsimp only
    have ok : ok4 made t := fun m hm => (List.pairwise_append.mp pw).2.2 m (List.mem_of_getLast? hm) t List.mem_cons_self
    have hl' : i + (r.length + 1) ≤ 8 := hl
    rw [if_neg (by rintro (z | z); omega; exact z ok), rd_rest r (i + 1) (made ++ [t]) (by omega) (by omega) (fun x hx => ht x (List.mem_cons_of_mem _ hx)) (by rw [List.append_assoc]; exact pw)]
    rw [List.append_assoc]
    rfl
open Classical in
theorem read_text {ts : List T4} (h : ∀ t ∈ ts, TR t) (pw : ts.Pairwise (fun p q => ltK (Tm.key p) (Tm.key q))) (hl : ts.length ≤ 8) : readF (textL ts) = .inr ts := by
  unfold readF
  cases ts with
  | nil => exact if_pos rfl
  | cons t r =>
    have h1 := one_first (h t List.mem_cons_self)
    by_cases e : textL (t :: r) = [48]
    · exfalso
      have p := pcs_text t r
      rw [e] at p
      have p2 : pcs 0 [] false [48] = [([48], false)] := rfl
      rw [p2] at p
      injection p with p _
      rw [← p] at h1
      unfold one4 fst4 at h1
      rw [if_neg (by rintro ⟨_, z⟩; injection z with z; omega)] at h1
      cases el : lawP [48] with
      | none => rw [el] at h1; cases h1
      | some u =>
        obtain ⟨⟨v1, _, _⟩, v2⟩ := law_iff.mp el
        have s1 := spl_tm u
        rw [v2] at s1
        have s2 : spl [32] 0 [] [48] = [[48]] := rfl
        rw [s2] at s1
        have hm : [48] ∈ wrdL u := by rw [← s1]; exact List.mem_cons_self
        unfold wrdL at hm
        split at hm
        · have := szR_beh (w := [48]) (r := []) (k := u.2.1) (q := u.2.2) (by
            unfold wrdL at s1
            rw [if_pos (by assumption)] at s1
            exact s1.symm)
          rcases List.mem_append.mp hm with hm | hm
          · unfold powL at hm
            split at hm
            · have := List.mem_singleton.mp hm
              injection this with z _
              omega
            · split at hm
              · have := List.mem_singleton.mp hm
                injection this with z _
                omega
              · cases hm
          · unfold eL at hm
            split at hm
            · cases hm
            · have := List.mem_singleton.mp hm
              injection this with z _
              omega
        · unfold wrdL at s1
          rw [if_neg (by assumption)] at s1
          injection s1 with s1 _
          obtain ⟨a, x, e1, h2, h3⟩ := size_head v1
          rw [← s1] at e1
          injection e1 with e1 _
          omega
    · rw [if_neg e, pcs_text]
      show (match one4 0 ((if t.1.1 < 0 then [45] else []) ++ tmL t, false) with
        | none => Sum.inl 0
        | some t => if (0 : Nat) = 8 ∨ ¬ ok4 [] t then .inl 0 else rdGo 1 ([] ++ [t]) (r.map fun t => (tmL t, decide (t.1.1 < 0)))) = _
      rw [h1]
      dsimp only
      have hl' : r.length + 1 ≤ 8 := hl
      rw [if_neg (by rintro (z | z); omega; exact z fun m hm => by cases hm), rd_rest r 1 ([] ++ [t]) (by omega) (by omega) (fun x hx => h x (List.mem_cons_of_mem _ hx)) (by simpa using pw)]
      rfl
end Nm

/-! Texts' methods over lists of signs. -/
namespace Nm
open PySem TL PyProof.Rows L2
theorem len_s (z : Str) : z.length = (tl z).length := len_tl z
theorem tl_cut (z : Str) (lo hi : Option Int) : tl (cutS z lo hi) = ((tl z).drop (HT.sIx z.length 0 lo)).take (HT.sIx z.length z.length hi - HT.sIx z.length 0 lo) := rfl
theorem six_nat (n d k : Nat) : HT.sIx n d (some (k : Int)) = min k n := HT.sIx_nat n d k
theorem take_min (l : Sg) (i : Nat) : l.take (min i l.length) = l.take i := by
  by_cases h : i ≤ l.length
  · rw [Nat.min_eq_left h]
  · rw [Nat.min_eq_right (by omega), List.take_of_length_le (by omega), List.take_of_length_le (by omega)]
theorem drop_min (l : Sg) (i : Nat) : l.drop (min i l.length) = l.drop i := by
  by_cases h : i ≤ l.length
  · rw [Nat.min_eq_left h]
  · rw [Nat.min_eq_right (by omega), List.drop_eq_nil_of_le (by omega), List.drop_eq_nil_of_le (by omega)]
theorem cut_from (z : Str) (i : Nat) : tl (cutS z (some (i : Int)) none) = (tl z).drop i := by
  rw [tl_cut, six_nat]
  show ((tl z).drop (min i z.length)).take (z.length - min i z.length) = _
  rw [len_s, drop_min, List.take_of_length_le]
  rw [List.length_drop]
  omega
theorem cut_to (z : Str) (i : Nat) : tl (cutS z none (some (i : Int))) = (tl z).take i := by
  rw [tl_cut, six_nat]
  show ((tl z).drop 0).take (min i z.length - 0) = _
  rw [len_s, Nat.sub_zero, List.drop_zero, take_min]
theorem cut_mid (z : Str) (i j : Nat) (h : i ≤ j) : tl (cutS z (some (i : Int)) (some (j : Int))) = ((tl z).drop i).take (j - i) := by
  rw [tl_cut, six_nat, six_nat, len_s]
  by_cases h1 : j ≤ (tl z).length
  · rw [Nat.min_eq_left h1, Nat.min_eq_left (by omega)]
  · rw [Nat.min_eq_right (show (tl z).length ≤ j by omega), drop_min, List.take_of_length_le (show ((tl z).drop i).length ≤ j - i by rw [List.length_drop]; omega), List.take_of_length_le]
    rw [List.length_drop]
    omega
theorem cut_in (z : Str) : tl (cutS z (some 3) (some (-1))) = ((tl z).drop 3).dropLast := by
  rw [tl_cut]
  have e1 : HT.sIx z.length 0 (some 3) = min 3 z.length := HT.sIx_nat _ _ 3
  have e2 : HT.sIx z.length z.length (some (-1)) = ((-1 : Int) + (z.length : Int)).toNat := by
    show (if (-1 : Int) < 0 then ((-1 : Int) + (z.length : Int)).toNat else min (-1 : Int).toNat z.length) = _
    exact if_pos (by decide)
  rw [e1, e2, len_s, drop_min, List.dropLast_eq_take, List.length_drop]
  by_cases h : (tl z).length ≤ 3
  · rw [List.drop_eq_nil_of_le h]
    simp
  · congr 1
    omega
theorem cut_end (z : Str) : tl (cutS z (some (-1)) none) = (tl z).drop ((tl z).length - 1) := by
  rw [tl_cut]
  have e1 : HT.sIx z.length 0 (some (-1)) = ((-1 : Int) + (z.length : Int)).toNat := by
    show (if (-1 : Int) < 0 then ((-1 : Int) + (z.length : Int)).toNat else min (-1 : Int).toNat z.length) = _
    exact if_pos (by decide)
  have e2 : HT.sIx z.length z.length none = z.length := rfl
  rw [e1, e2, len_s]
  have e3 : ((-1 : Int) + ((tl z).length : Int)).toNat = (tl z).length - 1 := by omega
  rw [e3, List.take_of_length_le]
  rw [List.length_drop]
  omega
theorem start_pre (x y : Str) : Txt.startswith x y = ((tl x).take (tl y).length == tl y) := by
  unfold Txt.startswith
  rw [PySem.StrLaws.subAt_eq, List.drop_zero, len_s, len_s, Nat.zero_add]
  by_cases h : (tl y).length ≤ (tl x).length
  · rw [decide_eq_true h, Bool.true_and]
  · rw [decide_eq_false h, Bool.false_and]
    symm
    rw [beq_eq_false_iff_ne]
    intro e
    have := congrArg List.length e
    rw [List.length_take] at this
    omega
theorem end_one (x y : Str) (c : Nat) (h : tl y = [c]) : Txt.endswith x y = ((tl x).getLast? == some c) := by
  unfold Txt.endswith
  rw [PySem.StrLaws.subAt_eq, len_s, len_s]
  have h' : y.cps.toList = [c] := h
  rw [h, h']
  show (decide (0 + 1 ≤ (tl x).length) && (((tl x).drop ((tl x).length - 1)).take 1 == [c])) = _
  cases e : tl x with
  | nil => rfl
  | cons a r =>
    have hn : (a :: r) ≠ [] := by simp
    rw [decide_eq_true (by simp), Bool.true_and, List.getLast?_eq_some_getLast hn]
    have z := List.dropLast_concat_getLast hn
    have e2 : (a :: r).drop ((a :: r).length - 1) = [(a :: r).getLast hn] := by
      have l1 : (a :: r).length - 1 = (a :: r).dropLast.length := by rw [List.length_dropLast]
      rw [l1]
      conv => lhs; rw [← z]
      rw [List.dropLast_concat, List.drop_left]
    rw [e2]
    simp
theorem start_minus {x y : Str} (h : tl y = [45]) : Txt.startswith x y = ((tl x).head? == some 45) := by
  rw [start_pre, h]
  cases tl x with
  | nil => rfl
  | cons a r => simp
/-! ### figures -/
theorem zfill_tl {x : Str} {n : Nat} (h : tl x = numL n) (hl : (numL n).length ≤ 60) : tl (Txt.zfill x 60) = List.replicate (60 - (numL n).length) 48 ++ numL n := by
  unfold Txt.zfill
  have e0 : (60 : Int).toNat = 60 := rfl
  rw [len_s, h, e0]
  split
  · rename_i c
    have : 60 - (numL n).length = 0 := by omega
    rw [this, h]
    rfl
  · unfold PySem.zfilled
    have e : x.cps[0]? = (numL n)[0]? := by rw [← h, Array.getElem?_toList]
    have hp : tl (PySem.Builtin.Str.padded x (60 - (numL n).length) 0 48) = List.replicate (60 - (numL n).length) 48 ++ numL n := by
      show (Array.replicate _ 48 ++ x.cps ++ Array.replicate 0 48).toList = _
      rw [Array.toList_append, Array.toList_append, Array.toList_replicate, Array.toList_replicate]
      show _ ++ tl x ++ [] = _
      rw [h, List.append_nil]
    have hd : ∀ c, (numL n)[0]? = some c → 48 ≤ c := fun c hc => (numL_digits n c (List.mem_of_getElem? hc)).1
    split
    · rename_i q; rw [e] at q; have := hd _ q; omega
    · rename_i q; rw [e] at q; have := hd _ q; omega
    · exact hp
theorem lstrip_tl {x y : Str} {k : Nat} {c : Nat} {r : Sg} (hy : tl y = [48]) (h : tl x = List.replicate k 48 ++ (c :: r)) (hc : c ≠ 48) : tl (Txt.lstripChars x y) = c :: r := by
  unfold Txt.lstripChars
  rw [PyProof.Rows.stripBy_eq]
  have g : ∀ a, y.cps.contains a = decide (a = 48) := fun a => by
    rw [← Array.contains_toList]
    have hy' : y.cps.toList = [48] := hy
    rw [hy']
    by_cases e : a = 48 <;> simp [e]
  have lo : PySem.stripLo y.cps.contains true x = k := by
    show ((tl x).takeWhile y.cps.contains).length = k
    rw [h]
    have : (List.replicate k 48 ++ (c :: r)).takeWhile y.cps.contains = List.replicate k 48 := by
      rw [List.takeWhile_append_of_pos (fun a ha => by rw [g, (List.mem_replicate.mp ha).2]; rfl), List.takeWhile_cons_of_neg (by rw [g]; simpa using hc), List.append_nil]
    rw [this, List.length_replicate]
  rw [lo]
  show tl (PySem.Builtin.Str.strSub x k x.length) = _
  rw [tl_strSub_end, h, List.drop_append]
  simp
end Nm

/-! A statement, then what is known behind it, then the rest: the rest is read once, whatever ways the statement has. -/
namespace Nm
open PySem PySem.Spec PyProof.Rows L2
def tCut (t u : TS) : TS := fun D σ H => ∃ Pv : L2.St → Hp → Prop, t { D with nx := Pv } σ H ∧ ∀ σ' H', Pv σ' H' → u D σ' H'
theorem pss_cut {X : Cx} {st : Stmt} {rest : List Stmt} {t u : TS} (h1 : PS X st t) (h2 : PSs X rest u) : PSs X (st :: rest) (tCut t u) := by
  refine ⟨fun pins s σ H D I h => ?_⟩
  obtain ⟨Pv, h, k⟩ := h
  refine wpAny_execs_cons (thn (h1.run pins s σ H { D with nx := Pv } I h) fun f s1 q => ?_)
  cases f with
  | next =>
    obtain ⟨σ', H', I', q⟩ := q
    exact h2.run pins s1 σ' H' D I' (k _ _ q)
  | ret v => exact q
  | brk => exact q
  | cont => exact q
end Nm

/-! The program's figures (of numbers below 10 ^ 60), minus_of, size_text. -/
namespace Nm
open PySem PySem.Spec PyProof.Rows L2 TL
abbrev pFigures : Stmt := topS 24
abbrev pMinus : Stmt := topS 26
abbrev pSize : Stmt := topS 27
theorem pi_tupC {X : Cx} {tg l : Expr} {tl : TE} {K : PySem.W.Frag} (hK : X.K = K) (hl : PE X l tl) : PI X tg l (iTup K tl) := by
  subst hK
  exact pi_tup hl
theorem pi_listC {X : Cx} {tg l : Expr} {tl : TE} {K : PySem.W.Frag} (hK : X.K = K) (hl : PE X l tl) : PI X tg l (iList K tl) := by
  subst hK
  exact pi_list hl
section
variable {P : Program} {w : World} {K : PySem.W.Frag} {mg : Str → Option Value} {base : Heap}
structure FigT (mg : Str → Option Value) : Prop where
  rev : mg "reversed" = none
  divm : mg "divmod" = none
  str : mg "str" = none
  abs : mg "abs" = none
  len : mg "len" = none
def spFigures : Sp := fun vs H Q _ => ∃ n : Nat, vs = [.int n] ∧ 0 < n ∧ n < 10 ^ 60 ∧ ∀ (z : Str) H', Same H H' → tl z = numL n → Q (.str z) H'
theorem scFigures : FnScope ["number", "powers", "pieces", "power", "piece", "half"] ["number"] (defScope pFigures) := ⟨rfl, rfl, rfl, by decide +kernel, rfl, by decide +kernel, by decide +kernel⟩
theorem nlog {n : Nat} (h : n < 10 ^ 60) : (n : Int).natAbs.log2 < 1920 := by
  rw [Int.natAbs_natCast]
  have h2 : n < 2 ^ 200 := Nat.lt_of_lt_of_le h (by decide +kernel)
  have := PySem.Flt.log2_lt_of (show 0 < 200 by decide) h2
  omega
theorem ok_figures {f : Addr} {fd : FuncData} {k : Nat} (F : Fun K "figures" "figures" pFigures f fd) (T : FigT mg) : FnOk P w K mg base CX0 (k + 1) f fd ["number"] spFigures := by
  refine F.ok scFigures (fun vs H Q E h => ?_) (fun cdv A outer s H vs Q E hr h => ?_)
  · obtain ⟨n, rfl, _⟩ := h
    rfl
  · obtain ⟨n, rfl, h0, h1, q⟩ := h
    refine ⟨_, pss_cons (ps_set (i := 1) scFigures.nd rfl (.inl rfl) (pe_lst (pa_cons (pe_op op_pow pe_int pe_int) pa_nil)))
      (pss_cons (ps_while PassesOwn.never (pt_cmpR op_le (pe_op op_mulW (pe_ix ix_list (pv 1) (pe_un un_neg pe_int) (fun _ _ => rfl)) (pe_ix ix_list (pv 1) (pe_un un_neg pe_int) (fun _ _ => rfl))) (pv 0) (nomark _))
        (pss_one (ps_expr (pe_bm PySem.F.plainAttrs_list PySem.F.slot_list_append PySem.F.type_list_append mt_append (pv 1) (pa_cons (pe_op op_mulW (pe_ix ix_list (pv 1) (pe_un un_neg pe_int) (fun _ _ => rfl)) (pe_ix ix_list (pv 1) (pe_un un_neg pe_int) (fun _ _ => rfl))) pa_nil)))))
      (pss_cons (ps_set (i := 2) scFigures.nd rfl (.inl rfl) (pe_lst (pa_cons (pv 0) pa_nil)))
      (pss_cons (ps_for PassesOwn.never rfl (pi_reversed (by rfl) T.rev (pa_cons (pv 1) pa_nil)) (pg_name (i := 3) scFigures.nd rfl (.inr rfl))
        (pss_one (ps_setLc2 (i := 2) (own := [("piece", 4), ("half", 5)]) (vs1 := [5]) (g := gName 4) (tt := tYes) (g1 := gName 5) (tt1 := tYes) (by rfl) scFigures.nd rfl rfl (sw_true rfl rfl rfl (by decide +kernel)) (pi_list (pv 2))
          (blkOk_by (N := ["number", "powers", "pieces", "power", "piece", "half"]) (sc := defScope pFigures) (by decide +kernel)) (by decide)
          (fun _ _ _ _ _ => pg_name (i := 4) scFigures.nd rfl (Or.inl rfl)) (fun _ _ _ _ _ => pts_nil)
          (fun _ _ _ _ _ => pi_tupC (K := K) (by rfl) (pe_callB call_divmodW (by rfl) T.divm (by decide +kernel) (pa_cons (pv 4) (pa_cons (pv 3) pa_nil))))
          (fun _ _ _ _ _ => pg_name (i := 5) scFigures.nd rfl (Or.inl rfl)) (fun _ _ _ _ _ => pts_nil) (fun _ _ _ _ _ => pv 5))))
      (pss_one (ps_ret (pe_m1 PySem.F.slot_str_lstrip PySem.F.type_str_lstrip mt_lstripChars (pe_join pe_str
        (pe_lc (own := [("piece", 4)]) (g := gName 4) (tt := tYes) (by rfl) scFigures.nd (pi_list (pv 2)) (blkOk_by (N := ["number", "powers", "pieces", "power", "piece", "half"]) (sc := defScope pFigures) (by decide +kernel))
          (fun _ _ _ _ _ => pg_name (i := 4) scFigures.nd rfl (Or.inl rfl)) (fun _ _ _ _ _ => pts_nil)
          (fun _ _ _ _ _ => pe_m1 PySem.F.slot_str_zfill PySem.F.type_str_zfill mt_zfill (pe_callTy call_str_int (by rfl) T.str (by decide +kernel) (pa_cons (pv 4) pa_nil)) pe_int))) pe_str)))))), ?_⟩
    refine ⟨10, 60, rfl, rfl, ⟨by decide, by decide, by decide⟩, (by show 1 ≤ sizeLine; decide), fun l nl => ?_⟩
    obtain ⟨Y, eY⟩ : ∃ Y : Int, Y = 10 ^ (60 : Int).toNat := ⟨_, rfl⟩
    have hY : Y = 10 ^ 60 := eY
    generalize eH1 : L2.upd H l (HO.lst [(fun i j : Int => V.int (i ^ j.toNat)) 10 60]) = H1
    have s1 : Same H H1 := by rw [← eH1]; exact same_upd nl
    have hl1 : H1 l = some (.lst [.int Y]) := by rw [← eH1, upd_same, eY]
    have hlast : atI [V.int Y] (-1) = some (.int Y) := atI_last [] (V.int Y)
    have hY2 : Y.natAbs < 2 ^ 200 := by rw [hY]; decide +kernel
    have cm : CMulW Y Y := wide_mul hY2 hY2 (by decide) (by decide) (by decide)
    refine while_by (fun σ H2 => H2 = H1 ∧ σ = [some (.int n), some (.ref l), none, none, none, none]) (fun _ _ => 0) ⟨rfl, rfl⟩ ?_ ?_
    · rintro σ H2 ⟨rfl, rfl⟩
      refine ⟨_, rfl, 1, rfl, l, _, _, .int Y, rfl, rfl, SqL.of hl1, hlast, _, rfl, 1, rfl, l, _, _, .int Y, rfl, rfl, SqL.of hl1, hlast, Y, Y, rfl, rfl, cm, _, rfl, Y * Y, n, rfl, rfl, _, rfl, ?_⟩
      have no : ¬ (Y * Y ≤ (n : Int)) := by
        rw [hY]
        have : (n : Int) < 10 ^ 60 := by omega
        have : (10 : Int) ^ 60 ≤ 10 ^ 60 * 10 ^ 60 := by decide +kernel
        omega
      rw [decide_eq_false no]
      refine iteF ?_
      -- pieces = [number]
      refine ⟨_, rfl, (by show 1 ≤ sizeLine; decide), fun l2 nl2 => ?_⟩
      generalize eH2 : L2.upd H2 l2 (HO.lst [V.int (n : Int)]) = H3
      have s2 : Same H2 H3 := by rw [← eH2]; exact same_upd nl2
      have hl3 : H3 l2 = some (.lst [.int n]) := by rw [← eH2, upd_same]
      have hl1' : H3 l = some (.lst [.int Y]) := s2 _ _ hl1
      refine ⟨_, rfl, l, [.int Y], rfl, SqL.of hl1', ?_⟩
      refine RT.for_Itv (K := K) (a := l) (xs := [.int Y]) (fun i σ H4 => Same H2 H4 ∧ ∃ (p : Addr) (y z u : Option V), σ = [some (.int n), some (.ref l), some (.ref p), y, z, u] ∧ H4 p = some (.lst ((if i = 0 then [(n : Int)] else [0, (n : Int)]).map V.int)))
        ⟨s2, l2, none, none, none, rfl, hl3⟩ (fun i σ H4 ⟨s4, _⟩ => SqL.of (s4 _ _ hl1)) ?_ ?_
      · rintro i x σ H4 hi hx ⟨s4, p, y, z, u, rfl, hp⟩
        have i0 : i = 0 := by simp at hi; omega
        subst i0
        obtain rfl : x = .int Y := by simpa using hx.symm
        refine ⟨_, rfl, p, rfl, ⟨_, SqL.of hp⟩, fun D nD => ?_⟩
        have hp : H4 p = some (.lst [.int (n : Int)]) := hp
        have nDp : D ≠ p := (ne_of_none hp nD).symm
        have sD : Same H4 (L2.upd H4 D (.lst [])) := same_upd nD
        have nY0 : ((n : Int)) / Y = 0 := by
          rw [hY]
          exact Int.ediv_eq_zero_of_lt (by omega) (by omega)
        have nY1 : ((n : Int)) % Y = n := by
          rw [hY]
          exact Int.emod_eq_of_lt (by omega) (by omega)
        refine ⟨fun i m H5 => (i = 0 ∧ m = 1 ∧ H5 = L2.upd H4 D (.lst [])) ∨ (i = 1 ∧ m = 0 ∧ Same H4 H5 ∧ H5 D = some (.lst [.int 0, .int (n : Int)])), ⟨1, .inl ⟨rfl, rfl, rfl⟩⟩, ?_⟩
        rintro i m H5 (⟨rfl, rfl, rfl⟩ | ⟨rfl, rfl, s5, hD5⟩)
        · refine .inr ⟨⟨_, .int (n : Int), SqL.of (sD _ _ hp), rfl⟩, fun H6 => Same H4 H6 ∧ H6 D = some (.lst [.int 0, .int (n : Int)]), fun H6 h6 => ⟨0, by decide, .inr ⟨rfl, rfl, h6⟩⟩, ?_⟩
          rintro x H6 ⟨rfl, hx6⟩
          obtain rfl : x = .int (n : Int) := by
            have z := hx6 _ (SqL.of (sD _ _ hp))
            exact (Option.some.inj z).symm
          refine ⟨rfl, ?_⟩
          unfold tYes
          dsimp only
          rw [if_pos rfl]
          refine ⟨_, rfl, _, rfl, (n : Int), Y, rfl, divp_ok (by rw [hY]; decide) ?_, fun p2 np2 => ?_⟩
          · have e1 : Builtin.Int.intBits (n : Int) ≤ 200 := PyProof.Rows.intBits_le (by rw [Int.natAbs_natCast]; exact Nat.lt_of_lt_of_le h1 (by decide +kernel))
            omega
          rw [nY0, nY1]
          generalize eH7 : L2.upd (L2.upd H4 D (.lst [])) p2 (HO.tup [.int 0, .int (n : Int)]) = H7
          have s7 : Same (L2.upd H4 D (.lst [])) H7 := by rw [← eH7]; exact same_upd np2
          have hp2 : H7 p2 = some (.tup [.int 0, .int (n : Int)]) := by rw [← eH7, upd_same]
          have hD7 : H7 D = some (.lst []) := s7 _ _ upd_same
          have n2D : p2 ≠ D := (ne_of_none upd_same np2).symm
          refine ⟨p2, rfl, ⟨_, SqT.of hp2⟩, ?_⟩
          refine ⟨fun j k H8 => (j = 0 ∧ k = 2 ∧ H8 = H7) ∨ (j = 1 ∧ k = 1 ∧ H8 = L2.upd H7 D (.lst [.int 0])) ∨ (j = 2 ∧ k = 0 ∧ H8 = L2.upd (L2.upd H7 D (.lst [.int 0])) D (.lst [.int 0, .int (n : Int)])), ⟨2, .inl ⟨rfl, rfl, rfl⟩⟩, ?_⟩
          have k1 : L2.upd H7 D (.lst [.int 0]) p2 = some (.tup [.int 0, .int (n : Int)]) := by rw [upd_ne n2D]; exact hp2
          have k2 : L2.upd (L2.upd H7 D (.lst [.int 0])) D (.lst [.int 0, .int (n : Int)]) p2 = some (.tup [.int 0, .int (n : Int)]) := by rw [upd_ne n2D]; exact k1
          rintro j k H8 (⟨rfl, rfl, rfl⟩ | ⟨rfl, rfl, rfl⟩ | ⟨rfl, rfl, rfl⟩)
          · refine .inr ⟨⟨_, .int 0, SqT.of hp2, rfl⟩, fun H9 => H9 = L2.upd H8 D (.lst [.int 0]), fun H9 h9 => ⟨1, by decide, .inr (.inl ⟨rfl, rfl, h9⟩)⟩, ?_⟩
            rintro x H9 ⟨rfl, hx9⟩
            obtain rfl : x = .int 0 := (Option.some.inj (hx9 _ (SqT.of hp2))).symm
            refine ⟨rfl, ?_⟩
            rw [if_pos rfl]
            exact ⟨_, rfl, _, hD7, by decide, rfl⟩
          · refine .inr ⟨⟨_, .int (n : Int), SqT.of k1, rfl⟩, fun H9 => H9 = L2.upd (L2.upd H7 D (.lst [.int 0])) D (.lst [.int 0, .int (n : Int)]), fun H9 h9 => ⟨0, by decide, .inr (.inr ⟨rfl, rfl, h9⟩)⟩, ?_⟩
            rintro x H9 ⟨rfl, hx9⟩
            obtain rfl : x = .int (n : Int) := (Option.some.inj (hx9 _ (SqT.of k1))).symm
            refine ⟨rfl, ?_⟩
            rw [if_pos rfl]
            exact ⟨_, rfl, _, upd_same, by decide, rfl⟩
          · refine .inl ⟨⟨_, SqT.of k2, Nat.le_refl _⟩, ?_, upd_same⟩
            intro c o hc
            have ncD : c ≠ D := ne_of_none hc nD
            rw [upd_ne ncD, upd_ne ncD]
            exact s7 _ _ (sD _ _ hc)
        · refine .inl ⟨⟨_, SqL.of (s5 _ _ hp), Nat.le_refl _⟩, s4.trans s5, D, _, _, _, rfl, ?_⟩
          rw [if_neg (by decide)]
          exact hD5
      · rintro σ H4 ⟨s4, p, y, z, u, rfl, hp⟩
        have hp : H4 p = some (.lst [.int 0, .int (n : Int)]) := hp
        refine ⟨⟨_, rfl⟩, _, rfl, p, rfl, ⟨_, SqL.of hp⟩, fun D nD => ?_⟩
        have nDp : D ≠ p := (ne_of_none hp nD).symm
        have l0 : (numL 0).length ≤ 60 := (numL_small (by decide)).mpr (by decide)
        have l1 : (numL n).length ≤ 60 := (numL_small (by decide)).mpr h1
        refine lc_list (K := K) (a := p) (xs := [.int 0, .int (n : Int)]) (fun i H5 => Same H4 H5 ∧ ∃ zs : List Str, H5 D = some (.lst (zs.map V.str)) ∧ zs.length = i ∧ (zs.map tl) = ([List.replicate 60 48, List.replicate (60 - (numL n).length) 48 ++ numL n].take i))
          ⟨same_upd nD, [], upd_same, rfl, rfl⟩ (fun i H5 _ ⟨s5, _⟩ => SqL.of (s5 _ _ hp)) ?_ ?_
        · rintro i x H5 hx ⟨s5, zs, hD5, lz, ez⟩
          obtain ⟨m, L, rfl, hm, eL, et, hi2⟩ : ∃ (m : Nat) (L : Sg), x = .int (m : Int) ∧ m < 10 ^ 60 ∧ List.replicate (60 - (numL m).length) 48 ++ numL m = L ∧
              ([List.replicate 60 48, List.replicate (60 - (numL n).length) 48 ++ numL n].take (i + 1)) = ([List.replicate 60 48, List.replicate (60 - (numL n).length) 48 ++ numL n].take i) ++ [L] ∧ i < 2 := by
            have hi2 := (List.getElem?_eq_some_iff.mp hx).1
            have : i = 0 ∨ i = 1 := by simp at hi2; omega
            rcases this with rfl | rfl
            · obtain rfl := (Option.some.inj hx).symm
              refine ⟨0, List.replicate 60 48, rfl, by decide, ?_, rfl, by decide⟩
              rw [numL_lt (by decide)]
              rfl
            · obtain rfl := (Option.some.inj hx).symm
              exact ⟨n, _, rfl, h1, rfl, rfl, by decide⟩
          refine ⟨rfl, ?_⟩
          unfold tYes
          dsimp only
          rw [if_pos rfl]
          refine ⟨_, rfl, _, rfl, nlog hm, ⟨_, rfl⟩, _, 60, rfl, rfl, rfl, _, hD5, ?_, ?_⟩
          · rw [List.length_map]
            exact Nat.lt_of_le_of_lt (show zs.length ≤ 2 by omega) (by decide)
          · refine ⟨fun c o hc => ?_, zs ++ [_], by rw [upd_same, List.map_append]; rfl, by rw [List.length_append, lz]; rfl, ?_⟩
            · have ncD : c ≠ D := ne_of_none hc nD
              rw [upd_ne ncD]
              exact s5 _ _ hc
            · rw [List.map_append, ez, et]
              congr 1
              show [tl _] = _
              rw [zfill_tl (n := m) (tl_num m) ((numL_small (by decide)).mpr hm), eL]
        · rintro H5 ⟨s5, zs, hD5, lz, ez⟩
          have ez : zs.map tl = [List.replicate 60 48, List.replicate (60 - (numL n).length) 48 ++ numL n] := ez
          obtain ⟨z1, z2, rfl⟩ : ∃ z1 z2, zs = [z1, z2] := by
            match zs, lz with
            | [z1, z2], _ => exact ⟨z1, z2, rfl⟩
          simp only [List.map_cons, List.map_nil, List.cons.injEq, and_true] at ez
          obtain ⟨e1, e2⟩ := ez
          have lz1 : z1.length = 60 := by rw [len_s, e1, List.length_replicate]
          have lz2 : z2.length = 60 := by rw [len_s, e2, List.length_append, List.length_replicate]; omega
          refine ⟨_, D, [z1, z2], rfl, rfl, .inl (SqL.of hD5), ?_, ⟨_, rfl⟩, _, _, rfl, rfl, ?_, ?_⟩
          · show z1.length + (z2.length + 0) + 2 * 0 ≤ 16777216
            omega
          · rw [join_eq, len_s, tl_join]
            show (z1.cps.toList ++ ([] ++ z2.cps.toList)).length ≤ sizeLine
            rw [List.length_append, List.length_append]
            show (tl z1).length + (0 + (tl z2).length) ≤ sizeLine
            rw [← len_s, ← len_s, lz1, lz2]
            decide
          · obtain ⟨c, r, en, hc1, hc2⟩ := numL_head h0
            refine q _ _ (s1.trans (s4.trans s5)) ?_
            rw [lstrip_tl (k := 60 + (60 - (numL n).length)) (c := c) (r := r) rfl ?_ (by omega), en]
            rw [join_eq, tl_join]
            show z1.cps.toList ++ ([] ++ z2.cps.toList) = _
            have e1 : z1.cps.toList = List.replicate 60 48 := e1
            have e2 : z2.cps.toList = List.replicate (60 - (numL n).length) 48 ++ numL n := e2
            rw [e1, e2, en, List.nil_append, ← List.append_assoc, List.replicate_append_replicate]
    · intro σ H2 Q1 Q2 h12 hq
      obtain ⟨v1, k1, i1, e1, a1, xs1, j1, w1, p1, p2, p3, p4, v2, k2, i2, e2, a2, xs2, j2, w2, q1, q2, q3, q4, m, m', r1, r2, cm, v3, k3, x, y, t1, t2, b, eb, hq⟩ := hq
      exact ⟨v1, k1, i1, e1, a1, xs1, j1, w1, p1, p2, p3, p4, v2, k2, i2, e2, a2, xs2, j2, w2, q1, q2, q3, q4, m, m', r1, r2, cm, v3, k3, x, y, t1, t2, b, eb, h12 _ _ hq⟩
/-! ### minus_of -/
def mns : Str := "-"
def spMinus (K : PySem.W.Frag) : Sp := fun vs H Q _ => ∃ (a : Addr) (t u : Int), vs = [.ref a] ∧ SqT K H a [.int t, .int u] ∧ ∀ z, tl z = (if t < 0 then [45] else []) → Q (.str z) H
theorem scMinus : FnScope ["fraction"] ["fraction"] (defScope pMinus) := ⟨rfl, rfl, rfl, by decide +kernel, rfl, by decide +kernel, by decide +kernel⟩
theorem ok_minus {f : Addr} {fd : FuncData} {k : Nat} (F : Fun K "minus_of" "minus_of" pMinus f fd) : FnOk P w K mg base CX0 (k + 1) f fd ["fraction"] (spMinus K) := by
  refine F.ok scMinus (fun vs H Q E h => ?_) (fun cdv A outer s H vs Q E hr h => ?_)
  · obtain ⟨a, t, u, rfl, _⟩ := h
    rfl
  · obtain ⟨a, t, u, rfl, ha, q⟩ := h
    refine ⟨_, pss_one (ps_ret (pe_ifExp (pt_cmpR op_lt (pe_ix ix_tup (pv 0) pe_int (fun _ _ => rfl)) pe_int (nomark _)) pe_str pe_str)), ?_⟩
    refine ⟨_, rfl, a, _, 0, .int t, rfl, rfl, ha, rfl, t, 0, rfl, rfl, _, rfl, ?_⟩
    refine ite2 (fun c => ?_) (fun c => ?_)
    · have c : t < 0 := of_decide_eq_true c
      exact q _ (by rw [if_pos c]; rfl)
    · have c : ¬ t < 0 := fun z => c (decide_eq_true z)
      exact q _ (by rw [if_neg c]; rfl)
/-! ### size_text -/
def spSizeT (K : PySem.W.Frag) : Sp := fun vs H Q _ => ∃ (a : Addr) (t u : Int), vs = [.ref a] ∧ SqT K H a [.int t, .int u] ∧ t ≠ 0 ∧ t.natAbs < 10 ^ 60 ∧ 0 < u ∧ u < 10 ^ 60 ∧ ∀ (z : Str) H', Same H H' → tl z = sizeL (t, u) → Q (.str z) H'
structure SizT (P : Program) (w : World) (K : PySem.W.Frag) (mg : Str → Option Value) (base : Heap) where
  fF : Addr
  fdF : FuncData
  FF : FnOk P w K mg base CX0 1 fF fdF ["number"] spFigures
  bF : Binds K fdF ["number"] []
  gF : mg "figures" = some (.ref fF)
  kF : PySem.W.keepIn K (.ref fF) = true
theorem abs_nat (t : Int) : (if t < 0 then -t else t) = (t.natAbs : Int) := by split <;> omega
theorem numL_60 {n : Nat} (h : n < 10 ^ 60) : (numL n).length ≤ 60 := (numL_small (by decide)).mpr h
theorem scSizeT : FnScope ["fraction", "top"] ["fraction"] (defScope pSize) := ⟨rfl, rfl, rfl, by decide +kernel, rfl, by decide +kernel, by decide +kernel⟩
theorem ok_sizeT {f : Addr} {fd : FuncData} (F : Fun K "size_text" "size_text" pSize f fd) (T : FigT mg) (U : SizT P w K mg base) : FnOk P w K mg base CX0 2 f fd ["fraction"] (spSizeT K) := by
  refine F.ok scSizeT (fun vs H Q E h => ?_) (fun cdv A outer s H vs Q E hr h => ?_)
  · obtain ⟨a, t, u, rfl, _⟩ := h
    rfl
  · obtain ⟨a, t, u, rfl, ha, t0, t1, u0, u1, q⟩ := h
    refine ⟨_, pss_cons (ps_set (i := 1) scSizeT.nd rfl (.inl rfl) (pe_call U.FF hr (by rfl) U.gF U.kF U.bF .nil pass0 (pa_cons (pe_callB call_abs (by rfl) T.abs (by decide +kernel) (pa_cons (pe_ix ix_tup (pv 0) pe_int (fun _ _ => rfl)) pa_nil)) pa_nil)))
      (pss_cons (ps_if (pt_cmpR op_eq (pe_ix ix_tup (pv 0) pe_int (fun _ _ => rfl)) pe_int (nomark _)) (pss_one (ps_ret (pv 1))) pss_nil)
      (pss_one (ps_ret (pe_op op_add_str (pe_op op_add_str (pv 1) pe_str) (pe_call U.FF hr (by rfl) U.gF U.kF U.bF .nil pass0 (pa_cons (pe_ix ix_tup (pv 0) pe_int (fun _ _ => rfl)) pa_nil)))))), ?_⟩
    refine ⟨_, rfl, a, _, 0, .int t, rfl, rfl, ha, rfl, t, rfl, t.natAbs, by rw [abs_nat]; rfl, by omega, t1, fun z H1 s1 ez => ?_⟩
    have ha1 : SqT K H1 a [.int t, .int u] := Nm.Same.seqT s1 ha
    refine ⟨_, rfl, a, _, 1, .int u, rfl, rfl, ha1, rfl, rfl, _, rfl, ?_⟩
    have lz : z.length ≤ 60 := by rw [len_s, ez]; exact numL_60 t1
    refine ite2 (fun c => ?_) (fun c => ?_)
    · have c : u = 1 := by simpa using c
      refine ⟨_, rfl, q z H1 s1 ?_⟩
      rw [ez]
      unfold sizeL
      rw [if_pos c]
    · have c : ¬ u = 1 := by simpa using c
      refine ⟨_, rfl, _, _, rfl, rfl, ?_, ?_⟩
      · exact Nat.le_trans (show z.length + _ ≤ 60 + 1 from Nat.add_le_add lz (by decide)) (by decide)
      refine ⟨_, rfl, a, _, 1, .int u, rfl, rfl, ha1, rfl, u.natAbs, by rw [show ((u.natAbs : Nat) : Int) = u from by omega]; rfl, by omega, by omega, fun z2 H2 s2 ez2 => ?_⟩
      have lz2 : z2.length ≤ 60 := by rw [len_s, ez2]; exact numL_60 (by omega)
      refine ⟨_, _, rfl, rfl, ?_, q _ H2 (s1.trans s2) ?_⟩
      · rw [Str.length_append]
        exact Nat.le_trans (show z.length + _ + z2.length ≤ 60 + 1 + 60 from Nat.add_le_add (Nat.add_le_add lz (by decide)) lz2) (by decide)
      · rw [tl_append, tl_append, ez, ez2]
        unfold sizeL
        rw [if_neg c, List.append_assoc]
        rfl
end
end Nm

/-! The program's term_text. -/
namespace Nm
open PySem PySem.Spec PyProof.Rows L2 TL
abbrev pTerm0 : Stmt := topS 28
section
variable {P : Program} {w : World} {K : PySem.W.Frag} {mg : Str → Option Value} {base : Heap}
/-- a term's tuple and its parts -/
structure TmA (K : PySem.W.Frag) (H : Hp) (a ca qa : Addr) (t : Tm) : Prop where
  t0 : SqT K H a [.ref ca, .int t.2.1, .ref qa]
  tc : SqT K H ca [.int t.1.1, .int t.1.2]
  tq : SqT K H qa [.int t.2.2.1, .int t.2.2.2]
theorem TmA.same {H H' : Hp} {a ca qa : Addr} {t : Tm} (x : TmA K H a ca qa t) (s : Same H H') : TmA K H' a ca qa t := ⟨Nm.Same.seqT s x.t0, Nm.Same.seqT s x.tc, Nm.Same.seqT s x.tq⟩
structure TxtT (P : Program) (w : World) (K : PySem.W.Frag) (mg : Str → Option Value) (base : Heap) extends SizT P w K mg base where
  fM : Addr
  fdM : FuncData
  fS : Addr
  fdS : FuncData
  unit : Addr
  FM : FnOk P w K mg base CX0 1 fM fdM ["fraction"] (spMinus K)
  FS : FnOk P w K mg base CX0 2 fS fdS ["fraction"] (spSizeT K)
  bM : Binds K fdM ["fraction"] []
  bS : Binds K fdS ["fraction"] []
  gM : mg "minus_of" = some (.ref fM)
  gS : mg "size_text" = some (.ref fS)
  kM : PySem.W.keepIn K (.ref fM) = true
  kS : PySem.W.keepIn K (.ref fS) = true
  gU : mg "UNIT" = some (.ref unit)
  dU : ∀ H : Hp, Dp K H (.ref unit) (.tuple [.int 1, .int 1])
def spTermT (K : PySem.W.Frag) : Sp := fun vs H Q _ => ∃ (a ca qa : Addr) (t : Tm), vs = [.ref a] ∧ TmA K H a ca qa t ∧ t.1.1 ≠ 0 ∧ t.1.1.natAbs < 10 ^ 60 ∧ 0 < t.1.2 ∧ t.1.2 < 10 ^ 60 ∧ (0 ≤ t.2.1 ∧ t.2.1 ≤ 3) ∧ RQ t.2.2.1 t.2.2.2 ∧
  ∀ (z : Str) H', Same H H' → tl z = tmL t → Q (.str z) H'
theorem scTermT : FnScope ["term", "c", "k", "q", "pieces", "size"] ["term"] (defScope pTerm0) := ⟨rfl, rfl, rfl, by decide +kernel, rfl, by decide +kernel, by decide +kernel⟩
theorem sizeL_len {c : Int × Int} (h1 : c.1.natAbs < 10 ^ 60) (h2 : c.2.natAbs < 10 ^ 60) : (sizeL c).length ≤ 121 := by
  have a := numL_60 h1
  have b := numL_60 h2
  unfold sizeL
  split
  · omega
  · rw [List.length_append, List.length_cons]
    omega
theorem sum_len {ws : List Str} {L : List Sg} (h : ws.map tl = L) : (ws.map (·.length)).sum = (L.map List.length).sum := by
  subst h
  rw [List.map_map]
  congr 1
theorem cnt_len {ws : List Str} {L : List Sg} (h : ws.map tl = L) : ws.length = L.length := by
  subst h
  rw [List.length_map]
theorem pow_cases {k : Int} (h : 0 ≤ k ∧ k ≤ 3) : powL k = [] ∨ powL k = [[116]] ∨ powL k = [[116, 94, 50]] ∨ powL k = [[116, 94, 51]] := by
  have : k = 0 ∨ k = 1 ∨ k = 2 ∨ k = 3 := by omega
  rcases this with rfl | rfl | rfl | rfl
  · exact .inl rfl
  · exact .inr (.inl powL_1)
  · exact .inr (.inr (.inl powL_2))
  · exact .inr (.inr (.inr powL_3))
theorem eIn_len {q : Int × Int} (h : RQ q.1 q.2) : (eIn q).length ≤ 122 := by
  obtain ⟨h1, h2, h3, h4, h5⟩ := h
  have := sizeL_len (c := q) (by omega) (by omega)
  unfold eIn
  rw [List.length_append]
  split
  · rw [List.length_singleton]; omega
  · rw [List.length_nil]; omega
theorem beh_sum {k : Int} {q : Int × Int} (h : 0 ≤ k ∧ k ≤ 3) (h2 : RQ q.1 q.2) : ((behL k q).map List.length).sum ≤ 200 ∧ (behL k q).length ≤ 2 := by
  have he : ((eL q).map List.length).sum ≤ 126 ∧ (eL q).length ≤ 1 := by
    unfold eL
    split
    · exact ⟨by decide, by decide⟩
    · refine ⟨?_, by simp⟩
      have := eIn_len h2
      show (101 :: 94 :: 40 :: (eIn q ++ [41])).length + 0 ≤ 126
      simp only [List.length_cons, List.length_append, List.length_nil]
      omega
  unfold behL
  rw [List.map_append, List.sum_append, List.length_append]
  rcases pow_cases h with e | e | e | e <;> rw [e] <;> simp <;> omega
theorem eqv_unit {t u : Int} : PyData.eqv (.tuple [.int t, .int u]) (.tuple [.int 1, .int 1]) = decide (t = 1 ∧ u = 1) := by
  have z := eqv_pair (t := t) (u := u) (t' := 1) (u' := 1)
  by_cases c : t = 1 ∧ u = 1
  · rw [decide_eq_true c]
    exact z.mpr c
  · rw [decide_eq_false c]
    cases e : PyData.eqv (.tuple [.int t, .int u]) (.tuple [.int 1, .int 1]) with
    | false => rfl
    | true => exact absurd (z.mp e) c
theorem ok_termT {f : Addr} {fd : FuncData} (F : Fun K "term_text" "term_text" pTerm0 f fd) (T : FigT mg) (U : TxtT P w K mg base) : FnOk P w K mg base CX0 3 f fd ["term"] (spTermT K) := by
  refine F.ok scTermT (fun vs H Q E h => ?_) (fun cdv A outer s H vs Q E hr h => ?_)
  · obtain ⟨a, ca, qa, t, rfl, _⟩ := h
    rfl
  · obtain ⟨a, ca, qa, t, rfl, ta, t0, t1, u0, u1, k0, rq, q⟩ := h
    have hr1 : Room 1 _ := hr.mono (by decide)
    refine ⟨_, pss_cons (ps_asg (pv 0) (pg_tup (by rfl) (pgs_cons (pg_name (i := 1) scTermT.nd rfl (.inl rfl)) (pgs_cons (pg_name (i := 2) scTermT.nd rfl (.inl rfl)) (pgs_cons (pg_name (i := 3) scTermT.nd rfl (.inl rfl)) pgs_nil)))))
      (pss_cons (ps_set (i := 4) scTermT.nd rfl (.inl rfl) (pe_lst pa_nil))
      (pss_cut (ps_if (pt_cmpR op_eq (pv 2) pe_int (nomark _)) (pss_one (ps_expr (pe_bm PySem.F.plainAttrs_list PySem.F.slot_list_append PySem.F.type_list_append mt_append (pv 4) (pa_cons pe_str pa_nil)))) pss_nil)
      (pss_cut (ps_if (pt_cmpR op_gt (pv 2) pe_int (nomark _)) (pss_one (ps_expr (pe_bm PySem.F.plainAttrs_list PySem.F.slot_list_append PySem.F.type_list_append mt_append (pv 4) (pa_cons (pe_op op_add_str pe_str (pe_call U.FF hr1 (by rfl) U.gF U.kF U.bF .nil pass0 (pa_cons (pv 2) pa_nil))) pa_nil)))) pss_nil)
      (pss_cut (ps_if (pt_cmpR op_ne (pe_ix ix_tup (pv 3) pe_int (fun _ _ => rfl)) pe_int (nomark _)) (pss_one (ps_expr (pe_bm PySem.F.plainAttrs_list PySem.F.slot_list_append PySem.F.type_list_append mt_append (pv 4)
          (pa_cons (pe_op op_add_str (pe_op op_add_str (pe_op op_add_str pe_str (pe_call U.FM hr1 (by rfl) U.gM U.kM U.bM .nil pass0 (pa_cons (pv 3) pa_nil))) (pe_call U.FS hr (by rfl) U.gS U.kS U.bS .nil pass0 (pa_cons (pv 3) pa_nil))) pe_str) pa_nil)))) pss_nil)
      (pss_cons (ps_set (i := 5) scTermT.nd rfl (.inl rfl) (pe_tup (pa_cons (pe_callB call_abs (by rfl) T.abs (by decide +kernel) (pa_cons (pe_ix ix_tup (pv 1) pe_int (fun _ _ => rfl)) pa_nil)) (pa_cons (pe_ix ix_tup (pv 1) pe_int (fun _ _ => rfl)) pa_nil))))
      (pss_cut (ps_if (PW.pt (pw_and (pt_cmpR (op_eqD hr.units) (pv 5) (pe_glob (v := .ref U.unit) (by rfl) U.gU rfl) (nomark _)) (pw_and1 (pt_cmpR op_gt (pe_callB call_len_seq (by rfl) T.len PySem.boot_len (pa_cons (pv 4) pa_nil)) pe_int (nomark _)))))
        (pss_one (ps_ret (pe_join pe_str (pv 4)))) pss_nil)
      (pss_one (ps_ret (pe_join pe_str (pe_op op_cat (pe_lst (pa_cons (pe_call U.FS hr (by rfl) U.gS U.kS U.bS .nil pass0 (pa_cons (pv 1) pa_nil)) pa_nil)) (pv 4))))))))))), ?_⟩
    refine ⟨_, rfl, a, _, rfl, ta.t0, rfl, _, _, rfl, _, _, rfl, _, _, rfl, rfl, ?_⟩
    refine ⟨Nat.zero_le _, fun l nl => ?_⟩
    obtain ⟨c, k, qq⟩ := t
    dsimp only at t0 t1 u0 u1 k0 rq q
    have hk : k = 0 ∨ k = 1 ∨ k = 2 ∨ k = 3 := by omega
    refine ⟨fun σ G => ∃ ws : List Str, σ = [some (.ref a), some (.ref ca), some (.int k), some (.ref qa), some (.ref l), none] ∧ Same H G ∧ G l = some (.lst (ws.map V.str)) ∧ ws.map tl = (if k = 1 then [[116]] else []) ∧ ws.length ≤ 1, ?_, ?_⟩
    · refine ⟨_, rfl, rfl, _, rfl, ?_⟩
      refine ite2 (fun c => ?_) (fun c => ?_)
      · have c : k = 1 := by simpa using c
        refine ⟨.ref l, rfl, .inl ⟨rfl, _, SqL.of upd_same⟩, l, _, _, rfl, rfl, upd_same, by decide, ?_⟩
        refine ⟨["t"], rfl, fun o ob h => ?_, upd_same, by rw [if_pos c]; rfl, by decide⟩
        rw [upd_upd, upd_ne (ne_of_none h nl)]
        exact h
      · have c : ¬ k = 1 := by simpa using c
        exact ⟨[], rfl, same_upd nl, upd_same, by rw [if_neg c]; rfl, by decide⟩
    rintro σ G ⟨ws, rfl, sG, hl, ew, lw⟩
    refine ⟨fun σ G => ∃ ws : List Str, σ = [some (.ref a), some (.ref ca), some (.int k), some (.ref qa), some (.ref l), none] ∧ Same H G ∧ G l = some (.lst (ws.map V.str)) ∧ ws.map tl = powL k, ?_, ?_⟩
    · refine ⟨_, rfl, k, 1, rfl, rfl, _, rfl, ?_⟩
      refine ite2 (fun c => ?_) (fun c => ?_)
      · have c : 1 < k := of_decide_eq_true c
        refine ⟨.ref l, rfl, .inl ⟨rfl, _, SqL.of hl⟩, _, rfl, k.natAbs, by rw [show ((k.natAbs : Nat) : Int) = k from by omega]; rfl, by omega, Nat.lt_of_le_of_lt (show k.natAbs ≤ 3 by omega) (by decide), fun z G1 s1 ez => ?_⟩
        have lz : z.length ≤ 60 := by rw [len_s, ez]; exact numL_60 (Nat.lt_of_le_of_lt (show k.natAbs ≤ 3 by omega) (by decide))
        refine ⟨_, _, rfl, rfl, Nat.le_trans (show _ + z.length ≤ 2 + 60 from Nat.add_le_add (by decide) lz) (by decide), l, _, _, rfl, rfl, s1 _ _ hl, by rw [List.length_map]; exact Nat.lt_of_le_of_lt lw (by decide), ?_⟩
        refine ⟨ws ++ [_], rfl, fun o ob h => ?_, by rw [upd_same, List.map_append]; rfl, ?_⟩
        · rw [upd_ne (ne_of_none h nl)]
          exact s1 _ _ (sG _ _ h)
        · rw [List.map_append, ew, if_neg (by omega)]
          unfold powL
          rw [if_neg (by omega), if_pos c]
          show [tl _] = _
          rw [tl_append, ez]
          rfl
      · have c : ¬ 1 < k := fun z => c (decide_eq_true z)
        refine ⟨ws, rfl, sG, hl, ?_⟩
        rw [ew]
        unfold powL
        rw [if_neg c]
    clear hl ew lw sG
    rintro σ G ⟨ws, rfl, sG, hl, ew⟩
    refine ⟨fun σ G => ∃ ws : List Str, σ = [some (.ref a), some (.ref ca), some (.int k), some (.ref qa), some (.ref l), none] ∧ Same H G ∧ G l = some (.lst (ws.map V.str)) ∧ ws.map tl = behL k qq, ?_, ?_⟩
    · have tG := ta.same sG
      have lw : ws.length ≤ 1 := by
        rw [cnt_len ew]
        rcases pow_cases k0 with e | e | e | e <;> rw [e] <;> decide
      refine ⟨_, rfl, qa, _, 0, .int qq.1, rfl, rfl, tG.tq, rfl, rfl, _, rfl, ?_⟩
      refine ite2 (fun c => ?_) (fun c => ?_)
      · have c : ¬ qq.1 = 0 := by simpa using c
        obtain ⟨r1, r2, r3, r4, r5⟩ := rq
        refine ⟨.ref l, rfl, .inl ⟨rfl, _, SqL.of hl⟩, _, rfl, qa, qq.1, qq.2, rfl, tG.tq, fun z em => ?_⟩
        have lm : z.length ≤ 1 := by
          rw [len_s, em]
          split <;> decide
        refine ⟨_, _, rfl, rfl, Nat.le_trans (show _ + z.length ≤ 3 + 1 from Nat.add_le_add (by decide) lm) (by decide), _, rfl, qa, qq.1, qq.2, rfl, tG.tq, c, by omega, by omega, by omega, fun z2 G1 s1 e2 => ?_⟩
        have lz2 : z2.length ≤ 121 := by rw [len_s, e2]; exact sizeL_len (by show qq.1.natAbs < _; omega) (by show qq.2.natAbs < _; omega)
        refine ⟨_, _, rfl, rfl, ?_, ?_⟩
        · rw [Str.length_append]
          exact Nat.le_trans (show _ + z.length + z2.length ≤ 3 + 1 + 121 from Nat.add_le_add (Nat.add_le_add (by decide) lm) lz2) (by decide)
        refine ⟨_, _, rfl, rfl, ?_, l, _, _, rfl, rfl, s1 _ _ hl, by rw [List.length_map]; exact Nat.lt_of_le_of_lt lw (by decide), ?_⟩
        · rw [Str.length_append, Str.length_append]
          exact Nat.le_trans (show _ + z.length + z2.length + _ ≤ 3 + 1 + 121 + 1 from Nat.add_le_add (Nat.add_le_add (Nat.add_le_add (by decide) lm) lz2) (by decide)) (by decide)
        refine ⟨ws ++ [_], rfl, fun o ob h => ?_, by rw [upd_same, List.map_append]; rfl, ?_⟩
        · rw [upd_ne (ne_of_none h nl)]
          exact s1 _ _ (sG _ _ h)
        · rw [List.map_append, ew]
          unfold behL eL
          rw [if_neg c]
          congr 1
          show [tl _] = _
          rw [tl_append, tl_append, tl_append, em, e2]
          unfold eW eIn
          simp only [List.append_assoc]
          rfl
      · have c : qq.1 = 0 := by simpa using c
        refine ⟨ws, rfl, sG, hl, ?_⟩
        rw [ew]
        unfold behL eL
        rw [if_pos c, List.append_nil]
    clear hl ew sG
    rintro σ G ⟨ws, rfl, sG, hl, ew⟩
    have tG := ta.same sG
    obtain ⟨bs, bl⟩ := beh_sum (q := qq) k0 rq
    have sl := sum_len ew
    have cl := cnt_len ew
    refine ⟨_, rfl, ca, _, 0, .int c.1, rfl, rfl, tG.tc, rfl, c.1, rfl, _, rfl, ca, _, 1, .int c.2, rfl, rfl, tG.tc, rfl, (by show 2 ≤ sizeLine; decide), fun p np => ?_⟩
    rw [abs_nat]
    generalize eG1 : L2.upd G p (HO.tup [.int (c.1.natAbs : Int), .int c.2]) = G1
    have s1 : Same G G1 := by rw [← eG1]; exact same_upd np
    have hp : G1 p = some (.tup [.int (c.1.natAbs : Int), .int c.2]) := by rw [← eG1, upd_same]
    have hl1 := s1 _ _ hl
    refine ⟨fun σ G2 => σ = [some (.ref a), some (.ref ca), some (.int k), some (.ref qa), some (.ref l), some (.ref p)] ∧ G2 = G1 ∧ ¬ (c.1.natAbs = 1 ∧ c.2 = 1 ∧ behL k qq ≠ []), ?_, ?_⟩
    · refine ⟨_, rfl, _, _, dp_pair (SqT.of hp), U.dU G1, rfl, rfl, _, rfl, ?_⟩
      rw [eqv_unit]
      refine ite2 (fun e => ?_) (fun e => ?_)
      · have e : (c.1.natAbs : Int) = 1 ∧ c.2 = 1 := of_decide_eq_true e
        refine ⟨_, rfl, l, _, rfl, .inl (SqL.of hl1), _, 0, rfl, rfl, _, rfl, ?_⟩
        rw [List.length_map]
        refine ite2 (fun e2 => ?_) (fun e2 => ?_)
        · have e2 : (0 : Int) < (ws.length : Int) := of_decide_eq_true e2
          have hb : behL k qq ≠ [] := fun z => by
            rw [z] at cl
            have cl : ws.length = 0 := cl
            omega
          refine ⟨⟨_, rfl⟩, _, rfl, _, l, ws, rfl, rfl, .inl (SqL.of hl1), ?_, q _ G1 (sG.trans s1) ?_⟩
          · rw [sl]
            show _ + ws.length * 1 ≤ _
            omega
          · rw [join_eq, tl_join, ew]
            unfold tmL wrdL
            dsimp only
            rw [if_pos ⟨by omega, e.2, hb⟩]
            rfl
        · refine ⟨rfl, rfl, fun z => e2 (decide_eq_true ?_)⟩
          have : (behL k qq).length ≠ 0 := fun y => z.2.2 (List.length_eq_zero_iff.mp y)
          show (0 : Int) < (ws.length : Int)
          omega
      · exact ⟨rfl, rfl, fun z => e (decide_eq_true ⟨by omega, z.2.1⟩)⟩
    rintro σ G2 ⟨rfl, rfl, no⟩
    have tG1 := tG.same s1
    refine ⟨⟨_, rfl⟩, _, rfl, ca, c.1, c.2, rfl, tG1.tc, t0, t1, u0, u1, fun z G3 s3 ez => ⟨(by show 1 ≤ sizeLine; decide), fun l2 nl2 => ?_⟩⟩
    have lz : z.length ≤ 121 := by rw [len_s, ez]; exact sizeL_len t1 (by omega)
    have hl3 := s3 _ _ hl1
    have s4 : Same G3 (L2.upd G3 l2 (.lst [.str z])) := same_upd nl2
    refine ⟨_, rfl, l2, l, [.str z], ws.map V.str, rfl, rfl, upd_same, s4 _ _ hl3, ?_, fun l3 nl3 => ?_⟩
    · rw [List.length_map]
      exact Nat.le_trans (show [V.str z].length + ws.length ≤ 1 + 2 from Nat.add_le_add (Nat.le_refl 1) (by omega)) (by decide)
    refine ⟨_, l3, z :: ws, rfl, rfl, .inl (SqL.of upd_same), ?_, q _ _ (sG.trans (s1.trans (s3.trans (s4.trans (same_upd nl3))))) ?_⟩
    · rw [List.map_cons, List.sum_cons, sl]
      show z.length + _ + (ws.length + 1) * 1 ≤ _
      omega
    · rw [join_eq, tl_join, List.map_cons, ew, ez]
      unfold tmL wrdL
      dsimp only
      rw [if_neg no]
      rfl
end
end Nm

/-! The program's has_few_digits, negated, read_size, read_rate. -/
namespace Nm
open PySem PySem.Spec PyProof.Rows L2 TL
abbrev pFew : Stmt := topS 38
abbrev pNegated : Stmt := topS 11
abbrev pRdSize : Stmt := topS 37
abbrev pRdRate : Stmt := topS 36
theorem uni_dig : ∀ c : Nat, c < 128 → Unicode.isDigit c = dig c := by decide +kernel
theorem few_eq (z : Str) : (Txt.isdigit z && (Txt.isascii z && decide ((z.length : Int) ≤ 30))) = fewB (tl z) := by
  unfold Txt.isdigit Txt.isascii fewB
  rw [← Array.all_toList, ← Array.all_toList, len_s]
  have e : (decide ((((tl z).length : Nat) : Int) ≤ 30)) = decide ((tl z).length ≤ 30) := by
    by_cases c : (tl z).length ≤ 30
    · rw [decide_eq_true c, decide_eq_true (by omega)]
    · rw [decide_eq_false c, decide_eq_false (by omega)]
  rw [e]
  have k : (z.cps.toList.all Unicode.isDigit && z.cps.toList.all fun x => decide (x < 128)) = (tl z).all dig := by
    show ((tl z).all Unicode.isDigit && (tl z).all fun x => decide (x < 128)) = (tl z).all dig
    generalize tl z = l
    induction l with
    | nil => rfl
    | cons c r ih =>
      rw [List.all_cons, List.all_cons, List.all_cons, ← ih]
      by_cases h : c < 128
      · rw [decide_eq_true h, uni_dig c h]
        cases dig c <;> cases r.all Unicode.isDigit <;> simp
      · have hd : dig c = false := by
          cases e : dig c with
          | false => rfl
          | true => have := dig_iff.mp e; omega
        rw [decide_eq_false h, hd]
        simp
  rw [← k]
  show (decide ((tl z).length > 0) && z.cps.toList.all Unicode.isDigit && ((z.cps.toList.all fun x => decide (x < 128)) && decide ((tl z).length ≤ 30))) = _
  cases decide ((tl z).length > 0) <;> cases z.cps.toList.all Unicode.isDigit <;> cases (z.cps.toList.all fun x => decide (x < 128)) <;> cases decide ((tl z).length ≤ 30) <;> rfl
theorem par_len : ∀ (l acc a b : Sg), TL.par [47] acc l = some (a, b) → a.length + b.length < acc.length + l.length
  | [], acc, a, b, h => by cases h
  | c :: r, acc, a, b, h => by
    by_cases e : c = 47
    · subst e
      rw [par_hit (by rw [pre1]; simp)] at h
      injection h with h
      injection h with h1 h2
      subst h1 h2
      show acc.length + r.length < acc.length + (r.length + 1)
      omega
    · rw [par_miss (by rw [pre1]; simp [e])] at h
      have z := par_len r _ a b h
      rw [List.length_append, List.length_singleton] at z
      rw [List.length_cons]
      omega
section
variable {P : Program} {w : World} {K : PySem.W.Frag} {mg : Str → Option Value} {base : Heap}
def spFew : Sp := fun vs H Q _ => ∃ z : Str, vs = [.str z] ∧ z.length ≤ 1000000 ∧ Q (.bl (fewB (tl z))) H
theorem scFew : FnScope ["text"] ["text"] (defScope pFew) := ⟨rfl, rfl, rfl, by decide +kernel, rfl, by decide +kernel, by decide +kernel⟩
theorem size_ok {n : Nat} (h : n ≤ 1000000) : n ≤ sizeLine := by
  rw [PySem.sizeLine_eq]
  omega
theorem ok_few {f : Addr} {fd : FuncData} {k : Nat} (F : Fun K "has_few_digits" "has_few_digits" pFew f fd) (T : FigT mg) (mD : ∃ t, mg "MOST_DIGITS" = some (.int 30 t)) : FnOk P w K mg base CX0 (k + 1) f fd ["text"] spFew := by
  refine F.ok scFew (fun vs H Q E h => ?_) (fun cdv A outer s H vs Q E hr h => ?_)
  · obtain ⟨z, rfl, _⟩ := h
    rfl
  · obtain ⟨z, rfl, hz, q⟩ := h
    obtain ⟨t1, mD⟩ := mD
    refine ⟨_, pss_one (ps_ret (pe_and (pe_m0 PySem.F.slot_str_isdigit PySem.F.type_str_isdigit mt_isdigit (pv 0)) (pe_and (pe_m0 PySem.F.slot_str_isascii PySem.F.type_str_isascii mt_isascii (pv 0))
      (pe_one (pe_cmpR op_le (pe_callB call_len_str (by rfl) T.len PySem.boot_len (pa_cons (pv 0) pa_nil)) (pe_glob (v := .int 30) (by rfl) mD ⟨_, rfl⟩) (nomark _)))))), ?_⟩
    rw [← few_eq] at q
    refine ⟨_, rfl, ⟨_, rfl⟩, z, rfl, rfl, trivial, _, rfl, ?_⟩
    cases e1 : Txt.isdigit z with
    | false => rw [e1] at q; exact iteF q
    | true =>
      rw [e1] at q
      refine iteT ?_
      refine ⟨_, rfl, ⟨_, rfl⟩, z, rfl, rfl, trivial, _, rfl, ?_⟩
      cases e2 : Txt.isascii z with
      | false => rw [e2] at q; exact iteF q
      | true =>
        rw [e2] at q
        refine iteT ?_
        exact ⟨_, rfl, z, rfl, size_ok hz, (z.length : Int), 30, rfl, rfl, q⟩
/-! ### negated -/
def spNegated (K : PySem.W.Frag) : Sp := fun vs H Q _ => ∃ (a : Addr) (t u : Int), vs = [.ref a] ∧ SqT K H a [.int t, .int u] ∧ ∀ p, H p = none → Q (.ref p) (L2.upd H p (.tup [.int (-t), .int u]))
theorem scNegated : FnScope ["fraction"] ["fraction"] (defScope pNegated) := ⟨rfl, rfl, rfl, by decide +kernel, rfl, by decide +kernel, by decide +kernel⟩
theorem ok_negated {f : Addr} {fd : FuncData} {k : Nat} (F : Fun K "negated" "negated" pNegated f fd) : FnOk P w K mg base CX0 (k + 1) f fd ["fraction"] (spNegated K) := by
  refine F.ok scNegated (fun vs H Q E h => ?_) (fun cdv A outer s H vs Q E hr h => ?_)
  · obtain ⟨a, t, u, rfl, _⟩ := h
    rfl
  · obtain ⟨a, t, u, rfl, ha, q⟩ := h
    refine ⟨_, pss_one (ps_ret (pe_tup (pa_cons (pe_un un_neg (pe_ix ix_tup (pv 0) pe_int (fun _ _ => rfl))) (pa_cons (pe_ix ix_tup (pv 0) pe_int (fun _ _ => rfl)) pa_nil)))), ?_⟩
    exact ⟨_, rfl, a, _, 0, .int t, rfl, rfl, ha, rfl, t, rfl, _, rfl, a, _, 1, .int u, rfl, rfl, ha, rfl, (by show 2 ≤ sizeLine; decide), fun p np => q p np⟩
/-! ### read_size -/
/-- what reading tells: None, or a new pair -/
def RdQ (H : Hp) (Q : VK) (o : Option (Int × Int)) : Prop := match o with
  | none => ∀ H', Same H H' → Q .non H'
  | some c => ∀ p H', Same H H' → H p = none → H' p = some (.tup [.int c.1, .int c.2]) → Q (.ref p) H'
def spRdSize : Sp := fun vs H Q _ => ∃ z : Str, vs = [.str z] ∧ z.length ≤ 1000000 ∧ RdQ H Q (szP (tl z))
structure RszT (P : Program) (w : World) (K : PySem.W.Frag) (mg : Str → Option Value) (base : Heap) where
  fF : Addr
  fdF : FuncData
  FF : FnOk P w K mg base CX0 1 fF fdF ["text"] spFew
  bF : Binds K fdF ["text"] []
  gF : mg "has_few_digits" = some (.ref fF)
  kF : PySem.W.keepIn K (.ref fF) = true
  int : mg "int" = none
theorem few_int {z : Str} (h : fewB (tl z) = true) : PySem.intText? z = some ((NumText.digitsVal (tl z) : Nat) : Int) ∧ z.length ≤ 640 := by
  unfold fewB at h
  simp only [Bool.and_eq_true, decide_eq_true_eq] at h
  obtain ⟨⟨h1, h2⟩, h3⟩ := h
  have hl := len_s z
  exact ⟨PySem.intText_digits (all_dig.mp h2) (fun e => by
    have e : tl z = [] := e
    rw [e] at h1; simp at h1) (by omega), by omega⟩
theorem scRdSize : FnScope ["text", "top", "bar", "bottom"] ["text"] (defScope pRdSize) := ⟨rfl, rfl, rfl, by decide +kernel, rfl, by decide +kernel, by decide +kernel⟩
theorem ok_rdsize {f : Addr} {fd : FuncData} (F : Fun K "read_size" "read_size" pRdSize f fd) (U : RszT P w K mg base) : FnOk P w K mg base CX0 2 f fd ["text"] spRdSize := by
  refine F.ok scRdSize (fun vs H Q E h => ?_) (fun cdv A outer s H vs Q E hr h => ?_)
  · obtain ⟨z, rfl, _⟩ := h
    rfl
  · obtain ⟨z, rfl, hz, q⟩ := h
    refine ⟨_, pss_cons (ps_asg (pe_partition (pv 0) pe_str) (pg_tup (by rfl) (pgs_cons (pg_name (i := 1) scRdSize.nd rfl (.inl rfl)) (pgs_cons (pg_name (i := 2) scRdSize.nd rfl (.inl rfl)) (pgs_cons (pg_name (i := 3) scRdSize.nd rfl (.inl rfl)) pgs_nil)))))
      (pss_cut (ps_if (pt_cmpR op_eq (pv 2) pe_str (nomark _)) (pss_one (ps_set (i := 3) scRdSize.nd rfl (.inl rfl) pe_str)) pss_nil)
      (pss_cut (ps_if (PW.pt (pw_or (pt_not (pt_val (pe_call U.FF hr (by rfl) U.gF U.kF U.bF .nil pass0 (pa_cons (pv 1) pa_nil)))) (pw_or1 (pt_not (pt_val (pe_call U.FF hr (by rfl) U.gF U.kF U.bF .nil pass0 (pa_cons (pv 3) pa_nil)))))))
        (pss_one (ps_ret pe_non)) pss_nil)
      (pss_one (ps_ret (pe_tup (pa_cons (pe_callTy call_int_str (by rfl) U.int (by decide +kernel) (pa_cons (pv 1) pa_nil)) (pa_cons (pe_callTy call_int_str (by rfl) U.int (by decide +kernel) (pa_cons (pv 3) pa_nil)) pa_nil))))))), ?_⟩
    refine ⟨_, rfl, ⟨_, rfl⟩, _, _, rfl, rfl, rfl, size_ok hz, fun p np => ?_⟩
    generalize eH1 : L2.upd H p _ = H1
    have s1 : Same H H1 := by rw [← eH1]; exact same_upd np
    have hp : H1 p = some (.tup [.str (Txt.partition z "/").1, .str (Txt.partition z "/").2.1, .str (Txt.partition z "/").2.2]) := by rw [← eH1, upd_same]
    refine ⟨p, _, rfl, SqT.of hp, rfl, _, _, rfl, _, _, rfl, _, _, rfl, rfl, ?_⟩
    have par := partition_par z "/" (by show ([47] : Sg) ≠ []; simp)
    have ey : tl ("/" : Str) = [47] := rfl
    rw [ey] at par
    -- both halves
    refine ⟨fun σ G => ∃ (a b : Str) (x : Option V), σ = [some (.str z), some (.str a), x, some (.str b)] ∧ G = H1 ∧ a.length ≤ 1000000 ∧ b.length ≤ 1000000 ∧
      szP (tl z) = (if fewB (tl a) = true ∧ fewB (tl b) = true then some (((NumText.digitsVal (tl a) : Nat) : Int), ((NumText.digitsVal (tl b) : Nat) : Int)) else none), ?_, ?_⟩
    · refine ⟨_, rfl, rfl, _, rfl, ?_⟩
      cases e : TL.par [47] [] (tl z) with
      | none =>
        rw [e] at par
        have par : Txt.partition z "/" = (z, Str.empty, Str.empty) := par
        rw [par]
        refine iteT ?_
        refine ⟨z, "1", _, rfl, rfl, hz, by decide, ?_⟩
        have f1 : fewB (tl ("1" : Str)) = true := by decide
        have v1 : NumText.digitsVal (tl ("1" : Str)) = 1 := by decide
        unfold szP
        rw [e, f1, v1]
        simp
      | some ab =>
        obtain ⟨a, b⟩ := ab
        rw [e] at par
        have par : Txt.partition z "/" = (⟨a.toArray⟩, ("/" : Str), ⟨b.toArray⟩) := par
        rw [par]
        refine iteF ?_
        have lab := par_len _ _ _ _ e
        rw [List.length_nil] at lab
        refine ⟨_, _, _, rfl, rfl, ?_, ?_, ?_⟩
        · show a.toArray.size ≤ _
          rw [List.size_toArray]
          have := len_s z
          omega
        · show b.toArray.size ≤ _
          rw [List.size_toArray]
          have := len_s z
          omega
        · unfold szP
          rw [e]
    rintro σ G ⟨a, b, x, rfl, rfl, la, lb, ez⟩
    refine ⟨fun σ H2 => H2 = G ∧ σ = [some (.str z), some (.str a), x, some (.str b)] ∧ fewB (tl a) = true ∧ fewB (tl b) = true, ?_, ?_⟩
    · refine ⟨_, rfl, a, rfl, la, _, rfl, ?_⟩
      cases fa : fewB (tl a) with
      | false =>
        rw [fa, if_neg (by simp)] at ez
        rw [ez] at q
        exact iteT (q _ s1)
      | true =>
        refine iteF ?_
        refine ⟨_, rfl, b, rfl, lb, _, rfl, ?_⟩
        cases fb : fewB (tl b) with
        | false =>
          rw [fb, if_neg (by simp)] at ez
          rw [ez] at q
          exact iteT (q _ s1)
        | true => exact iteF ⟨rfl, rfl, rfl, rfl⟩
    rintro σ H2 ⟨rfl, rfl, fa, fb⟩
    rw [fa, fb, if_pos ⟨rfl, rfl⟩] at ez
    rw [ez] at q
    obtain ⟨i1, i2⟩ := few_int fa
    obtain ⟨j1, j2⟩ := few_int fb
    exact ⟨_, rfl, a, _, rfl, i1, i2, _, rfl, b, _, rfl, j1, j2, (by show 2 ≤ sizeLine; decide), fun p2 np2 => q p2 _ (s1.trans (same_upd np2)) (s1.free np2) upd_same⟩
/-! ### read_rate -/
def spRdRate : Sp := fun vs H Q _ => ∃ z : Str, vs = [.str z] ∧ z.length ≤ 1000000 ∧ RdQ H Q (rateP (tl z))
structure RrtT (P : Program) (w : World) (K : PySem.W.Frag) (mg : Str → Option Value) (base : Heap) where
  fS : Addr
  fdS : FuncData
  fN : Addr
  fdN : FuncData
  FS : FnOk P w K mg base CX0 2 fS fdS ["text"] spRdSize
  FN : FnOk P w K mg base CX0 1 fN fdN ["fraction"] (spNegated K)
  bS : Binds K fdS ["text"] []
  bN : Binds K fdN ["fraction"] []
  gS : mg "read_size" = some (.ref fS)
  gN : mg "negated" = some (.ref fN)
  kS : PySem.W.keepIn K (.ref fS) = true
  kN : PySem.W.keepIn K (.ref fN) = true
theorem scRdRate : FnScope ["text", "size"] ["text"] (defScope pRdRate) := ⟨rfl, rfl, rfl, by decide +kernel, rfl, by decide +kernel, by decide +kernel⟩
theorem ok_rdrate {f : Addr} {fd : FuncData} (F : Fun K "read_rate" "read_rate" pRdRate f fd) (U : RrtT P w K mg base) : FnOk P w K mg base CX0 3 f fd ["text"] spRdRate := by
  refine F.ok scRdRate (fun vs H Q E h => ?_) (fun cdv A outer s H vs Q E hr h => ?_)
  · obtain ⟨z, rfl, _⟩ := h
    rfl
  · obtain ⟨z, rfl, hz, q⟩ := h
    have hr1 : Room 1 _ := hr.mono (by decide)
    refine ⟨_, pss_cons (ps_if (pt_not (pt_val (pe_m1 PySem.F.slot_str_startswith PySem.F.type_str_startswith mt_startswith (pv 0) pe_str))) (pss_one (ps_ret (pe_call U.FS hr (by rfl) U.gS U.kS U.bS .nil pass0 (pa_cons (pv 0) pa_nil)))) pss_nil)
      (pss_cons (ps_set (i := 1) scRdRate.nd rfl (.inl rfl) (pe_call U.FS hr (by rfl) U.gS U.kS U.bS .nil pass0 (pa_cons (pe_slice sl_str (pv 0) (po_some pe_int) po_none) pa_nil)))
      (pss_one (ps_ret (pe_ifExp (pt_cmpR op_isN (pv 1) pe_non (nomark _)) pe_non (pe_call U.FN hr1 (by rfl) U.gN U.kN U.bN .nil pass0 (pa_cons (pv 1) pa_nil)))))), ?_⟩
    refine ⟨_, rfl, ⟨_, rfl⟩, z, _, rfl, rfl, _, rfl, ?_⟩
    rw [start_minus (y := "-") rfl]
    cases e : tl z with
    | nil =>
      refine iteT ?_
      have er : rateP (tl z) = szP (tl z) := by rw [e]; rfl
      exact ⟨_, rfl, z, rfl, hz, by rw [← er]; exact q⟩
    | cons c r =>
      by_cases c45 : c = 45
      · subst c45
        refine iteF ?_
        have el : tl (cutS z (some ((1 : Nat) : Int)) none) = r := by rw [cut_from, e]; rfl
        have er : rateP (tl z) = (match szP r with | some z => some (-z.1, z.2) | none => none) := by rw [e]; rfl
        rw [er] at q
        refine ⟨_, rfl, 1, rfl, z, rfl, size_ok hz, cutS z (some ((1 : Nat) : Int)) none, rfl, Nat.le_trans (cutS_length _ _ _) hz, ?_⟩
        rw [el]
        cases es : szP r with
        | none =>
          rw [es] at q
          intro H1 s1
          exact ⟨_, rfl, rfl, _, rfl, iteT (q _ s1)⟩
        | some c =>
          rw [es] at q
          intro p H1 s1 np hp
          refine ⟨_, rfl, rfl, _, rfl, iteF ?_⟩
          exact ⟨_, rfl, p, c.1, c.2, rfl, SqT.of hp, fun p2 np2 => q p2 _ (s1.trans (same_upd np2)) (s1.free np2) upd_same⟩
      · have hb : ((c :: r).head? == some 45) = false := by simp [c45]
        rw [hb]
        refine iteT ?_
        have er : rateP (tl z) = szP (tl z) := by
          rw [e]
          unfold rateP
          split
          · rename_i q ez
            injection ez with e1 _
            exact absurd e1 c45
          · rfl
        exact ⟨_, rfl, z, rfl, hz, by rw [← er]; exact q⟩
end
end Nm

/-! The program's bare_term. -/
namespace Nm
open PySem PySem.Spec PyProof.Rows L2 TL
abbrev pBare : Stmt := topS 35
abbrev Tt : Addr → Prop := fun _ => True
theorem TupAt.same {K : PySem.W.Frag} {H H' : Hp} {a : Addr} {xs : List V} (s : Same H H') (h : TupAt K Tt H a xs) : TupAt K Tt H' a xs := h.keep fun _ _ _ _ e => ⟨True.intro, s _ _ e⟩
theorem TupAt.of {K : PySem.W.Frag} {H : Hp} {a : Addr} {xs : List V} (h : H a = some (.tup xs)) : TupAt K Tt H a xs := .inl ⟨True.intro, h⟩
def CAt (K : PySem.W.Frag) (H : Hp) (v : V) : Option (Int × Int) → Prop
  | none => v = .non
  | some c => ∃ a, v = .ref a ∧ TupAt K Tt H a [.int c.1, .int c.2]
theorem CAt.same {K : PySem.W.Frag} {H H' : Hp} {v : V} {o : Option (Int × Int)} (s : Same H H') (h : CAt K H v o) : CAt K H' v o := by
  cases o with
  | none => exact h
  | some c =>
    obtain ⟨a, e, h⟩ := h
    exact ⟨a, e, Nm.TupAt.same s h⟩
theorem TupAt.updL {K : PySem.W.Frag} {H : Hp} {a l : Addr} {xs ys : List V} {o : HO} (hl : H l = some (.lst ys)) (h : TupAt K Tt H a xs) : TupAt K Tt (L2.upd H l o) a xs := by
  rcases h with ⟨s, h⟩ | h
  · exact .inl ⟨s, by rw [upd_ne (ne_of h hl (fun z => nomatch z))]; exact h⟩
  · exact .inr h
theorem CAt.updL {K : PySem.W.Frag} {H : Hp} {v : V} {l : Addr} {ys : List V} {o : HO} {c : Option (Int × Int)} (hl : H l = some (.lst ys)) (h : CAt K H v c) : CAt K (L2.upd H l o) v c := by
  cases c with
  | none => exact h
  | some c =>
    obtain ⟨a, e, h⟩ := h
    exact ⟨a, e, Nm.TupAt.updL hl h⟩
/-- the data of such a value -/
def cD : Option (Int × Int) → PyData
  | none => .none
  | some c => .tuple [.int c.1, .int c.2]
theorem CAt.de {K : PySem.W.Frag} {H : Hp} {v : V} {o : Option (Int × Int)} (h : CAt K H v o) : DE K Tt H v (cD o) := by
  cases o with
  | none =>
    obtain rfl : v = .non := h
    exact .non
  | some c =>
    obtain ⟨a, rfl, h⟩ := h
    exact .tup h (.cons (.int _) (.cons (.int _) .nil))
theorem spl_len : ∀ (l acc : Sg) (p : Sg), p ∈ spl [32] 0 acc l → p.length ≤ acc.length + l.length
  | [], acc, p, h => by
    rw [spl_nil] at h
    rw [List.mem_singleton.mp h]
    simp
  | c :: r, acc, p, h => by
    rw [List.length_cons]
    by_cases e : c = 32
    · subst e
      rw [spl1_hit] at h
      rcases List.mem_cons.mp h with rfl | h
      · omega
      · have := spl_len r [] p h
        rw [List.length_nil] at this
        omega
    · rw [spl1_miss e] at h
      have := spl_len r _ p h
      rw [List.length_append, List.length_singleton] at this
      omega
theorem spl_cnt (s : Nat) : ∀ (l acc : Sg), (spl [s] 0 acc l).length ≤ l.length + 1
  | [], acc => by rw [spl_nil]; simp
  | c :: r, acc => by
    rw [List.length_cons]
    by_cases e : c = s
    · subst e
      rw [spl1_hit, List.length_cons]
      have := spl_cnt c r []
      omega
    · rw [spl1_miss e]
      have := spl_cnt s r (acc ++ [c])
      omega
theorem map_cons_tl {ws : List Str} {w : Sg} {r : List Sg} (h : ws.map tl = w :: r) : ∃ z zs, ws = z :: zs ∧ tl z = w ∧ zs.map tl = r := by
  cases ws with
  | nil => cases h
  | cons z zs =>
    injection h with h1 h2
    exact ⟨z, zs, rfl, h1, h2⟩
theorem head_dig (z : Str) : Txt.isdigit (cutS z none (some 1)) = headDig (tl z) := by
  have e : tl (cutS z none (some 1)) = (tl z).take 1 := cut_to z 1
  have e2 : (cutS z none (some 1)).length = ((tl z).take 1).length := by rw [len_s, e]
  unfold Txt.isdigit headDig
  rw [← Array.all_toList, e2]
  have e3 : (cutS z none (some 1)).cps.toList = (tl z).take 1 := e
  rw [e3]
  cases tl z with
  | nil => rfl
  | cons c r => simp
theorem is_e (z : Str) : (Txt.startswith z "e^(" && Txt.endswith z ")") = isE (tl z) := by
  rw [start_pre, end_one z ")" 41 rfl]
  rfl
/-- is_term's flag over such values -/
theorem tm_some {cb qb : Option (Int × Int)} {k : Int} : (tmOf (.tuple [cD cb, .int k, cD qb])).isSome = true ↔ ∃ c q, cb = some c ∧ qb = some q ∧ okT (c, k, q) := by
  cases cb with
  | none =>
    have : tmOf (.tuple [cD none, .int k, cD qb]) = none := tmOf_no1 rfl
    rw [this]
    exact ⟨fun h => (by cases h), fun ⟨c, q, e, _⟩ => (by cases e)⟩
  | some c =>
    cases qb with
    | none =>
      have : tmOf (.tuple [cD (some c), .int k, cD none]) = none := tmOf_no3 rfl
      rw [this]
      exact ⟨fun h => (by cases h), fun ⟨c, q, _, e, _⟩ => (by cases e)⟩
    | some q =>
      show (tm3 k (pairD (cD (some c))) (pairD (cD (some q)))).isSome = true ↔ _
      have e1 : pairD (cD (some c)) = if 0 < c.2 ∧ Int.gcd c.1 c.2 = 1 then some c else none := rfl
      have e2 : pairD (cD (some q)) = if 0 < q.2 ∧ Int.gcd q.1 q.2 = 1 then some q else none := rfl
      rw [e1, e2]
      constructor
      · intro h
        by_cases c1 : 0 < c.2 ∧ Int.gcd c.1 c.2 = 1
        · by_cases c2 : 0 < q.2 ∧ Int.gcd q.1 q.2 = 1
          · rw [if_pos c1, if_pos c2] at h
            unfold tm3 at h
            dsimp only at h
            by_cases y : c.1 ≠ 0 ∧ (0 ≤ k ∧ k ≤ 3) ∧ q.2 ≤ 4 ∧ (if q.1 < 0 then -q.1 else q.1) ≤ 4 * q.2
            · obtain ⟨y1, y2, y3, y4⟩ := y
              refine ⟨c, q, rfl, rfl, ⟨c1.1, c1.2, y1⟩, y2, ?_⟩
              have := c2.1
              exact ⟨by show 1 ≤ q.2; omega, y3, c2.2, by show -(4 * q.2) ≤ q.1; split at y4 <;> omega, by show q.1 ≤ 4 * q.2; split at y4 <;> omega⟩
            · rw [if_neg y] at h
              cases h
          · rw [if_neg c2] at h
            unfold tm3 at h
            split at h
            · rename_i h1 h2; cases h2
            · cases h
        · rw [if_neg c1] at h
          unfold tm3 at h
          split at h
          · rename_i h1 h2; cases h1
          · cases h
      · rintro ⟨c', q', rfl', rfl'', ⟨h1, h2, h3⟩, h4, h5, h6, h7, h8, h9⟩
        injection rfl' with e3
        injection rfl'' with e4
        subst e3 e4
        have h1 : 0 < c.2 := h1
        have h5 : 1 ≤ q.2 := h5
        have h6 : q.2 ≤ 4 := h6
        have h8 : -(4 * q.2) ≤ q.1 := h8
        have h9 : q.1 ≤ 4 * q.2 := h9
        rw [if_pos ⟨h1, h2⟩, if_pos ⟨by omega, h7⟩]
        unfold tm3
        dsimp only
        rw [if_pos ⟨h3, h4, h6, by split <;> omega⟩]
        rfl
section
variable {P : Program} {w : World} {K : PySem.W.Frag} {mg : Str → Option Value} {base : Heap}
def WrT (K : PySem.W.Frag) (a : Addr) (xs : List V) : Prop := ∃ (o : Obj) (its : Array Value) (n : Nat), K.lookup a = some o ∧ o.cls = .type "tuple" ∧ o.data = .seq its n ∧ its.size ≤ sizeLine ∧ Vals xs its.toList
structure BreT (P : Program) (w : World) (K : PySem.W.Frag) (mg : Str → Option Value) (base : Heap) where
  fS : Addr
  fdS : FuncData
  fR : Addr
  fdR : FuncData
  fI : Addr
  fdI : FuncData
  fT : Addr
  fdT : FuncData
  unit : Addr
  nil : Addr
  pw : Addr
  es : Array DictEntry
  en : Nat
  FS : FnOk P w K mg base CX0 2 fS fdS ["text"] spRdSize
  FR : FnOk P w K mg base CX0 3 fR fdR ["text"] spRdRate
  FI : FnOk P w K mg base CX0 4 fI fdI ["thing"] (spPTerm K)
  FT : FnOk P w K mg base CX0 3 fT fdT ["term"] (spTermT K)
  bS : Binds K fdS ["text"] []
  bR : Binds K fdR ["text"] []
  bI : Binds K fdI ["thing"] []
  bT : Binds K fdT ["term"] []
  gS : mg "read_size" = some (.ref fS)
  gR : mg "read_rate" = some (.ref fR)
  gI : mg "is_term" = some (.ref fI)
  gT : mg "term_text" = some (.ref fT)
  kS : PySem.W.keepIn K (.ref fS) = true
  kR : PySem.W.keepIn K (.ref fR) = true
  kI : PySem.W.keepIn K (.ref fI) = true
  kT : PySem.W.keepIn K (.ref fT) = true
  gU : mg "UNIT" = some (.ref unit)
  gN : mg "NIL" = some (.ref nil)
  wU : WrT K unit [.int 1, .int 1]
  wN : WrT K nil [.int 0, .int 1]
  gP : mg "POWERS" = some (.ref pw)
  D : KDict K w pw es en
  at_ : ∀ z : Str, ∃ r, PySem.W.nsIn K pw z = some r ∧ match powR (tl z) with | some k => ∃ t, r = some (.int k t) | none => r = none
  len : mg "len" = none
def TmQ (K : PySem.W.Frag) (H : Hp) (p : Addr) (t : T4) : Prop := ∃ ca qa, H p = some (.tup [.ref ca, .int t.2.1, .ref qa]) ∧ TupAt K Tt H ca [.int t.1.1, .int t.1.2] ∧ TupAt K Tt H qa [.int t.2.2.1, .int t.2.2.2]
/-- what reading a piece tells: None, or a new term -/
def RtQ (K : PySem.W.Frag) (H : Hp) (Q : VK) (o : Option T4) : Prop := match o with
  | none => ∀ H', Same H H' → Q .non H'
  | some t => ∀ p H', Same H H' → H p = none → TmQ K H' p t → Q (.ref p) H'
def spBare (K : PySem.W.Frag) : Sp := fun vs H Q _ => ∃ z : Str, vs = [.str z] ∧ z.length ≤ 100000 ∧ RtQ K H Q (bareP (tl z))
theorem scBare : FnScope ["body", "words", "c", "k", "q"] ["body"] (defScope pBare) := ⟨rfl, rfl, rfl, by decide +kernel, rfl, by decide +kernel, by decide +kernel⟩
theorem ok_bare {f : Addr} {fd : FuncData} (F : Fun K "bare_term" "bare_term" pBare f fd) (U : BreT P w K mg base) : FnOk P w K mg base CX0 5 f fd ["body"] (spBare K) := by
  refine F.ok scBare (fun vs H Q E h => ?_) (fun cdv A outer s H vs Q E hr h => ?_)
  · obtain ⟨z, rfl, _⟩ := h
    rfl
  · obtain ⟨b, rfl, hb, q⟩ := h
    have hr2 : Room 2 _ := hr.mono (by decide)
    have hr3 : Room 3 _ := hr.mono (by decide)
    refine ⟨_, pss_cons (ps_set (i := 1) scBare.nd rfl (.inl rfl) (pe_split (pv 0) pe_str))
      (pss_cons (ps_set (i := 2) scBare.nd rfl (.inl rfl) (pe_glob (v := .ref U.unit) (by rfl) U.gU rfl))
      (pss_cons (ps_set (i := 3) scBare.nd rfl (.inl rfl) pe_int)
      (pss_cons (ps_set (i := 4) scBare.nd rfl (.inl rfl) (pe_glob (v := .ref U.nil) (by rfl) U.gN rfl))
      (pss_cut (ps_if (pt_val (pe_m0 PySem.F.slot_str_isdigit PySem.F.type_str_isdigit mt_isdigit (pe_slice sl_str (pe_ix ix_list (pv 1) pe_int (fun _ _ => rfl)) po_none (po_some pe_int))))
        (pss_one (ps_set (i := 2) scBare.nd rfl (.inl rfl) (pe_call U.FS hr2 (by rfl) U.gS U.kS U.bS .nil pass0 (pa_cons (pe_bm PySem.F.plainAttrs_list PySem.F.slot_list_pop PySem.F.type_list_pop mt_popAt (pv 1) (pa_cons pe_int pa_nil)) pa_nil)))) pss_nil)
      (pss_cut (ps_if (PW.pt (pw_and (pt_cmpR op_gt (pe_callB call_len_seq (by rfl) U.len PySem.boot_len (pa_cons (pv 1) pa_nil)) pe_int (nomark _)) (pw_and1 (pt_cmpR (op_in_kd U.D) (pe_ix ix_list (pv 1) pe_int (fun _ _ => rfl)) (pe_glob (v := .ref U.pw) (by rfl) U.gP rfl) (by rfl)))))
        (pss_one (ps_set (i := 3) scBare.nd rfl (.inl rfl) (pe_ix ix_kdict (pe_glob (v := .ref U.pw) (by rfl) U.gP rfl) (pe_bm PySem.F.plainAttrs_list PySem.F.slot_list_pop PySem.F.type_list_pop mt_popAt (pv 1) (pa_cons pe_int pa_nil)) (fun _ _ => rfl)))) pss_nil)
      (pss_cut (ps_if (PW.pt (pw_and (pt_cmpR op_gt (pe_callB call_len_seq (by rfl) U.len PySem.boot_len (pa_cons (pv 1) pa_nil)) pe_int (nomark _))
          (pw_and (pt_val (pe_m1 PySem.F.slot_str_startswith PySem.F.type_str_startswith mt_startswith (pe_ix ix_list (pv 1) pe_int (fun _ _ => rfl)) pe_str)) (pw_and1 (pt_val (pe_m1 PySem.F.slot_str_endswith PySem.F.type_str_endswith mt_endswith (pe_ix ix_list (pv 1) pe_int (fun _ _ => rfl)) pe_str))))))
        (pss_one (ps_set (i := 4) scBare.nd rfl (.inl rfl) (pe_call U.FR hr3 (by rfl) U.gR U.kR U.bR .nil pass0 (pa_cons (pe_slice sl_str (pe_bm PySem.F.plainAttrs_list PySem.F.slot_list_pop PySem.F.type_list_pop mt_popAt (pv 1) (pa_cons pe_int pa_nil)) (po_some pe_int) (po_some (pe_un un_neg pe_int))) pa_nil)))) pss_nil)
      (pss_cut (ps_if (PW.pt (pw_or (pt_cmpR op_gt (pe_callB call_len_seq (by rfl) U.len PySem.boot_len (pa_cons (pv 1) pa_nil)) pe_int (nomark _)) (pw_or1 (pt_not (pt_val (pe_call U.FI hr (by rfl) U.gI U.kI U.bI .nil pass0 (pa_cons (pe_tup (pa_cons (pv 2) (pa_cons (pv 3) (pa_cons (pv 4) pa_nil)))) pa_nil)))))))
        (pss_one (ps_ret pe_non)) pss_nil)
      (pss_one (ps_ret (pe_ifExp (pt_cmpR op_eq (pe_call U.FT hr3 (by rfl) U.gT U.kT U.bT .nil pass0 (pa_cons (pe_tup (pa_cons (pv 2) (pa_cons (pv 3) (pa_cons (pv 4) pa_nil)))) pa_nil)) (pv 0) (nomark _)) (pe_tup (pa_cons (pv 2) (pa_cons (pv 3) (pa_cons (pv 4) pa_nil)))) pe_non)))))))))), ?_⟩
    have hbl := len_s b
    refine ⟨_, rfl, ⟨_, rfl⟩, _, _, rfl, rfl, rfl, size_ok (by omega), fun l nl => ?_⟩
    have sp : (Txt.split b " ").map tl = spl [32] 0 [] (tl b) := split_spl b " " (by show ([32] : Sg) ≠ []; simp) (kind_ok (by decide +kernel))
    obtain ⟨ws0, ews0⟩ : ∃ ws0, ws0 = Txt.split b " " := ⟨_, rfl⟩
    rw [← ews0] at sp
    generalize eH1 : L2.upd H l _ = H1
    have s1 : Same H H1 := by rw [← eH1]; exact same_upd nl
    have hl1 : H1 l = some (.lst (ws0.map V.str)) := by rw [← eH1, upd_same, ews0]
    have hwl : ∀ z ∈ ws0, z.length ≤ 1000000 := fun z hz => by
      have hm : tl z ∈ spl [32] 0 [] (tl b) := by rw [← sp]; exact List.mem_map_of_mem hz
      have := spl_len _ _ _ hm
      rw [List.length_nil] at this
      rw [len_s]
      omega
    have hne : ws0 ≠ [] := fun e => by
      rw [e] at sp
      exact spl_ne _ _ _ _ sp.symm
    have cnt : ws0.length ≤ 100001 := by
      have z := congrArg List.length sp
      rw [List.length_map] at z
      have := spl_cnt 32 (tl b) []
      omega
    unfold bareP at q
    dsimp only at q
    have at0 : ∀ (z : Str) (zs : List Str), atI ((z :: zs).map V.str) 0 = some (.str z) := fun z zs => atI_nat (j := 0) rfl
    have wr : ∀ {a : Addr} {xs : List V} {G : Hp}, WrT K a xs → TupAt K Tt G a xs := fun h => .inr h
    -- the size
    refine ⟨fun σ G => ∃ (ws : List Str) (v : V), σ = [some (.str b), some (.ref l), some v, some (.int 0), some (.ref U.nil)] ∧ Same H G ∧ G l = some (.lst (ws.map V.str)) ∧ ws.map tl = (takeC (spl [32] 0 [] (tl b))).2 ∧ CAt K G v (takeC (spl [32] 0 [] (tl b))).1 ∧ (∀ z ∈ ws, z.length ≤ 1000000) ∧ ws.length ≤ 100001, ?_, ?_⟩
    · obtain ⟨z0, zs0, rfl⟩ : ∃ z zs, ws0 = z :: zs := by
        cases ws0 with
        | nil => exact absurd rfl hne
        | cons z zs => exact ⟨z, zs, rfl⟩
      have sp2 : spl [32] 0 [] (tl b) = tl z0 :: zs0.map tl := sp.symm
      have hz0 := hwl z0 List.mem_cons_self
      refine ⟨_, rfl, l, _, 0, .str z0, rfl, rfl, SqL.of hl1, at0 z0 zs0, 1, rfl, z0, rfl, size_ok hz0, ⟨_, rfl⟩, _, rfl, rfl, trivial, _, rfl, ?_⟩
      rw [head_dig z0]
      unfold takeC
      rw [sp2, List.headD_cons, List.tail_cons]
      cases eh : headDig (tl z0) with
      | true =>
        refine iteT ?_
        refine ⟨.ref l, rfl, .inl ⟨rfl, _, SqL.of hl1⟩, l, _, 0, 0, .str z0, rfl, rfl, hl1, by decide, by decide, PyProof.Rows.seqIndex?_zero (by simp), rfl, z0, rfl, hz0, ?_⟩
        have s2 : Same H (L2.upd H1 l (.lst (((z0 :: zs0).map V.str).eraseIdx 0))) := fun c o hc => by
          rw [upd_ne (ne_of_none hc nl)]
          exact s1 _ _ hc
        have hl2 : L2.upd H1 l (.lst (((z0 :: zs0).map V.str).eraseIdx 0)) l = some (.lst (zs0.map V.str)) := upd_same
        generalize L2.upd H1 l (.lst (((z0 :: zs0).map V.str).eraseIdx 0)) = H2 at *
        have hws : (∀ z ∈ zs0, z.length ≤ 1000000) ∧ zs0.length ≤ 100001 := ⟨fun z hz => hwl z (List.mem_cons_of_mem _ hz), by rw [List.length_cons] at cnt; omega⟩
        cases es : szP (tl z0) with
        | none => exact fun H3 s3 => ⟨zs0, .non, rfl, s2.trans s3, s3 _ _ hl2, rfl, rfl, hws⟩
        | some c => exact fun p H3 s3 np hp => ⟨zs0, .ref p, rfl, s2.trans s3, s3 _ _ hl2, rfl, ⟨p, rfl, TupAt.of hp⟩, hws⟩
      | false =>
        refine iteF ?_
        exact ⟨z0 :: zs0, .ref U.unit, rfl, s1, hl1, rfl, ⟨U.unit, rfl, wr U.wU⟩, hwl, cnt⟩
    clear hl1 s1 sp hwl hne cnt eH1 ews0
    rintro σ G ⟨ws, v, rfl, sG, hl, ew, cv, hw, cnt⟩
    have hcb : ∀ c, (takeC (spl [32] 0 [] (tl b))).1 = some c → 0 ≤ c.1 ∧ c.1 < 10 ^ 30 ∧ 0 ≤ c.2 ∧ c.2 < 10 ^ 30 := fun c z => by
      unfold takeC at z
      split at z
      · exact szP_b z
      · obtain rfl := Option.some.inj z
        exact ⟨by show (0 : Int) ≤ 1; omega, by show (1 : Int) < 10 ^ 30; decide, by show (0 : Int) ≤ 1; omega, by show (1 : Int) < 10 ^ 30; decide⟩
    generalize (takeC (spl [32] 0 [] (tl b))).1 = cb at *
    generalize (takeC (spl [32] 0 [] (tl b))).2 = W1 at *
    -- the power
    refine ⟨fun σ G => ∃ (ws : List Str), σ = [some (.str b), some (.ref l), some v, some (.int (takeK W1).1), some (.ref U.nil)] ∧ Same H G ∧ G l = some (.lst (ws.map V.str)) ∧ ws.map tl = (takeK W1).2 ∧ CAt K G v cb ∧ (∀ z ∈ ws, z.length ≤ 1000000) ∧ ws.length ≤ 100001, ?_, ?_⟩
    · refine ⟨_, rfl, l, _, rfl, .inl (SqL.of hl), _, 0, rfl, rfl, _, rfl, ?_⟩
      rw [List.length_map]
      cases ws with
      | nil =>
        refine iteF ?_
        have eW : W1 = [] := ew.symm
        subst eW
        exact ⟨[], rfl, sG, hl, rfl, cv, hw, cnt⟩
      | cons z zs =>
        have hc : decide ((0 : Int) < ((z :: zs).length : Int)) = true := decide_eq_true (by rw [List.length_cons]; omega)
        refine ite2 (fun _ => ?_) (fun c => absurd hc c)
        have eW : W1 = tl z :: zs.map tl := ew.symm
        obtain ⟨r, er, hr2'⟩ := U.at_ z
        refine ⟨_, rfl, l, _, 0, .str z, rfl, rfl, SqL.of hl, at0 z zs, z, r, rfl, rfl, er, _, rfl, ?_⟩
        cases ep : powR (tl z) with
        | none =>
          rw [ep] at hr2'
          obtain rfl : r = none := hr2'
          refine iteF ?_
          have ek : takeK W1 = (0, W1) := by rw [eW]; unfold takeK; dsimp only; rw [ep]
          rw [ek]
          exact ⟨z :: zs, rfl, sG, hl, ew, cv, hw, cnt⟩
        | some k =>
          rw [ep] at hr2'
          obtain ⟨t, rfl⟩ : ∃ t, r = some (.int k t) := hr2'
          refine iteT ?_
          have ek : takeK W1 = (k, zs.map tl) := by rw [eW]; unfold takeK; dsimp only; rw [ep]
          rw [ek]
          refine ⟨.ref l, rfl, .inl ⟨rfl, _, SqL.of hl⟩, l, _, 0, 0, .str z, rfl, rfl, hl, by decide, by decide, PyProof.Rows.seqIndex?_zero (by simp), rfl, U.pw, z, .int k, rfl, rfl, ⟨_, _, _, U.D.at_, U.D.lit, er, ⟨t, rfl⟩⟩, ?_⟩
          have s2 : Same H (L2.upd G l (.lst (((z :: zs).map V.str).eraseIdx 0))) := fun c o hc => by
            rw [upd_ne (ne_of_none hc nl)]
            exact sG _ _ hc
          exact ⟨zs, rfl, s2, upd_same, rfl, Nm.CAt.updL hl cv, fun y hy => hw y (List.mem_cons_of_mem _ hy), by rw [List.length_cons] at cnt; omega⟩
    clear hl sG ew cv hw cnt
    rintro σ G ⟨ws, rfl, sG, hl, ew, cv, hw, cnt⟩
    generalize (takeK W1).1 = k at *
    generalize (takeK W1).2 = W2 at *
    -- the rate
    refine ⟨fun σ G => ∃ (ws : List Str) (u : V), σ = [some (.str b), some (.ref l), some v, some (.int k), some u] ∧ Same H G ∧ G l = some (.lst (ws.map V.str)) ∧ ws.map tl = (takeE W2).2 ∧ CAt K G v cb ∧ CAt K G u (takeE W2).1, ?_, ?_⟩
    · refine ⟨_, rfl, l, _, rfl, .inl (SqL.of hl), _, 0, rfl, rfl, _, rfl, ?_⟩
      rw [List.length_map]
      have nn : ∀ G, CAt K G (.ref U.nil) (some (0, 1)) := fun G => ⟨U.nil, rfl, wr U.wN⟩
      cases ws with
      | nil =>
        refine iteF ?_
        have eW : W2 = [] := ew.symm
        subst eW
        exact ⟨[], _, rfl, sG, hl, rfl, cv, nn _⟩
      | cons z zs =>
        have hc : decide ((0 : Int) < ((z :: zs).length : Int)) = true := decide_eq_true (by rw [List.length_cons]; omega)
        refine ite2 (fun _ => ?_) (fun c => absurd hc c)
        have eW : W2 = tl z :: zs.map tl := ew.symm
        have hz := hw z List.mem_cons_self
        have no : isE (tl z) = false → takeE W2 = (some (0, 1), W2) := fun e => by rw [eW]; unfold takeE; dsimp only; rw [e]; rfl
        refine ⟨_, rfl, l, _, 0, .str z, rfl, rfl, SqL.of hl, at0 z zs, ⟨_, rfl⟩, z, _, rfl, rfl, _, rfl, ?_⟩
        have ie := is_e z
        cases e1 : Txt.startswith z "e^(" with
        | false =>
          rw [e1, Bool.false_and] at ie
          refine iteF ?_
          rw [no ie.symm]
          exact ⟨z :: zs, _, rfl, sG, hl, ew, cv, nn _⟩
        | true =>
          refine iteT ?_
          refine ⟨_, rfl, l, _, 0, .str z, rfl, rfl, SqL.of hl, at0 z zs, ⟨_, rfl⟩, z, _, rfl, rfl, _, rfl, ?_⟩
          cases e2 : Txt.endswith z ")" with
          | false =>
            rw [e1, e2] at ie
            refine iteF ?_
            rw [no ie.symm]
            exact ⟨z :: zs, _, rfl, sG, hl, ew, cv, nn _⟩
          | true =>
            rw [e1, e2] at ie
            have ie : isE (tl z) = true := ie.symm
            refine iteT ?_
            have ek : takeE W2 = (rateP ((tl z).drop 3).dropLast, zs.map tl) := by rw [eW]; unfold takeE; dsimp only; rw [if_pos ie]
            rw [ek]
            refine ⟨.ref l, rfl, .inl ⟨rfl, _, SqL.of hl⟩, l, _, 0, 0, .str z, rfl, rfl, hl, by decide, by decide, PyProof.Rows.seqIndex?_zero (by simp), rfl, 3, rfl, 1, rfl, -1, rfl, z, rfl, size_ok hz, cutS z (some 3) (some (-1)), rfl, Nat.le_trans (cutS_length _ _ _) hz, ?_⟩
            rw [cut_in]
            have s2 : Same H (L2.upd G l (.lst (((z :: zs).map V.str).eraseIdx 0))) := fun c o hc => by
              rw [upd_ne (ne_of_none hc nl)]
              exact sG _ _ hc
            have hl2 : L2.upd G l (.lst (((z :: zs).map V.str).eraseIdx 0)) l = some (.lst (zs.map V.str)) := upd_same
            have cv2 : CAt K (L2.upd G l (.lst (((z :: zs).map V.str).eraseIdx 0))) v cb := Nm.CAt.updL hl cv
            generalize L2.upd G l (.lst (((z :: zs).map V.str).eraseIdx 0)) = G2 at *
            cases es : rateP ((tl z).drop 3).dropLast with
            | none => exact fun H3 s3 => ⟨zs, .non, rfl, s2.trans s3, s3 _ _ hl2, rfl, cv2.same s3, rfl⟩
            | some c => exact fun p H3 s3 np hp => ⟨zs, .ref p, rfl, s2.trans s3, s3 _ _ hl2, rfl, cv2.same s3, ⟨p, rfl, TupAt.of hp⟩⟩
    clear hl sG ew cv hw cnt
    rintro σ G ⟨ws, u, rfl, sG, hl, ew, cv, cu⟩
    generalize (takeE W2).1 = qb at *
    generalize (takeE W2).2 = W3 at *
    -- a term?
    refine ⟨fun σ G2 => σ = [some (.str b), some (.ref l), some v, some (.int k), some u] ∧ Same G G2 ∧ W3 = [] ∧ ∃ c q, cb = some c ∧ qb = some q ∧ okT (c, k, q), ?_, ?_⟩
    · refine ⟨_, rfl, l, _, rfl, .inl (SqL.of hl), _, 0, rfl, rfl, _, rfl, ?_⟩
      rw [List.length_map]
      cases ws with
      | cons z zs =>
        have hc : decide ((0 : Int) < ((z :: zs).length : Int)) = true := decide_eq_true (by rw [List.length_cons]; omega)
        refine ite2 (fun _ => ?_) (fun c => absurd hc c)
        have eW : W3 = tl z :: zs.map tl := ew.symm
        rw [eW, if_pos (by simp)] at q
        exact q _ sG
      | nil =>
        have eW : W3 = [] := ew.symm
        refine iteF ?_
        refine ⟨_, rfl, _, rfl, _, rfl, (by show 3 ≤ sizeLine; decide), fun p np => ?_⟩
        have s2 : Same G (L2.upd G p (.tup [v, .int k, u])) := same_upd np
        have hp : L2.upd G p (.tup [v, .int k, u]) p = some (.tup [v, .int k, u]) := upd_same
        generalize L2.upd G p (.tup [v, .int k, u]) = G2 at *
        refine ⟨.ref p, .tuple [cD cb, .int k, cD qb], Tt, rfl, .tup (TupAt.of hp) (.cons (cv.same s2).de (.cons (.int k) (.cons (cu.same s2).de .nil))), _, rfl, ?_⟩
        cases et : (tmOf (.tuple [cD cb, .int k, cD qb])).isSome with
        | true => exact iteF ⟨rfl, s2, eW, tm_some.mp et⟩
        | false =>
          refine iteT ?_
          rw [eW, if_neg (by simp)] at q
          have : RtQ K H Q none := by
            cases cb with
            | none => exact q
            | some c =>
              cases qb with
              | none => exact q
              | some r =>
                dsimp only at q
                by_cases ok : okT (c, k, r)
                · rw [tm_some.mpr ⟨c, r, rfl, rfl, ok⟩] at et
                  cases et
                · rw [if_neg ok] at q
                  exact q
          exact this _ (sG.trans s2)
    rintro σ G2 ⟨rfl, s2, eW, c, r, rfl, rfl, ok⟩
    rw [eW, if_neg (by simp)] at q
    dsimp only at q
    rw [if_pos ok] at q
    obtain ⟨ca, rfl, tc⟩ := cv.same s2
    obtain ⟨qa, rfl, tq⟩ := cu.same s2
    obtain ⟨⟨o1, o2, o3⟩, o4, o5⟩ := id ok
    obtain ⟨c1, c2⟩ := c
    have o1 : 0 < c2 := o1
    have o3 : c1 ≠ 0 := o3
    refine ⟨_, rfl, _, rfl, _, rfl, (by show 3 ≤ sizeLine; decide), fun p np => ?_⟩
    have s3 : Same G2 (L2.upd G2 p (.tup [.ref ca, .int k, .ref qa])) := same_upd np
    have hp : L2.upd G2 p (.tup [.ref ca, .int k, .ref qa]) p = some (.tup [.ref ca, .int k, .ref qa]) := upd_same
    generalize L2.upd G2 p (.tup [.ref ca, .int k, .ref qa]) = G3 at *
    have small : c1.natAbs < 10 ^ 60 ∧ c2 < 10 ^ 60 := by
      obtain ⟨h1, h2, h3, h4⟩ := hcb _ rfl
      have h1 : 0 ≤ c1 := h1
      have h2 : c1 < 10 ^ 30 := h2
      have h4 : c2 < 10 ^ 30 := h4
      omega
    refine ⟨p, ca, qa, ((c1, c2), k, r), rfl, ⟨SqT.of hp, (Nm.TupAt.same s3 tc).sq, (Nm.TupAt.same s3 tq).sq⟩, o3, small.1, o1, small.2, o4, o5, fun z G4 s4 ez => ?_⟩
    refine ⟨_, rfl, rfl, _, rfl, ?_⟩
    have s04 := sG.trans (s2.trans (s3.trans s4))
    refine ite2 (fun e => ?_) (fun e => ?_)
    · have e : z = b := by simpa using e
      have et : tmL ((c1, c2), k, r) = tl b := by rw [← e]; exact ez.symm
      rw [if_pos et] at q
      exact ⟨_, rfl, _, rfl, _, rfl, (by show 3 ≤ sizeLine; decide), fun p2 np2 => q p2 _ (s04.trans (same_upd np2)) (s04.free np2) ⟨ca, qa, upd_same, Nm.TupAt.same (s3.trans (s4.trans (same_upd np2))) tc, Nm.TupAt.same (s3.trans (s4.trans (same_upd np2))) tq⟩⟩
    · have e : ¬ z = b := by simpa using e
      have et : ¬ tmL ((c1, c2), k, r) = tl b := fun y => e (ext_tl (ez.trans y))
      rw [if_neg et] at q
      exact q _ s04
end
end Nm

/-! The program's signed_term, pieces_of. -/
namespace Nm
open PySem PySem.Spec PyProof.Rows L2 TL
abbrev pSigned : Stmt := topS 34
abbrev pPieces : Stmt := topS 33
def mk (b : Bool) : Nat := if b then 45 else 43
section
variable {P : Program} {w : World} {K : PySem.W.Frag} {mg : Str → Option Value} {base : Heap}
structure SgnT (P : Program) (w : World) (K : PySem.W.Frag) (mg : Str → Option Value) (base : Heap) where
  fB : Addr
  fdB : FuncData
  fN : Addr
  fdN : FuncData
  FB : FnOk P w K mg base CX0 5 fB fdB ["body"] (spBare K)
  FN : FnOk P w K mg base CX0 1 fN fdN ["fraction"] (spNegated K)
  bB : Binds K fdB ["body"] []
  bN : Binds K fdN ["fraction"] []
  gB : mg "bare_term" = some (.ref fB)
  gN : mg "negated" = some (.ref fN)
  kB : PySem.W.keepIn K (.ref fB) = true
  kN : PySem.W.keepIn K (.ref fN) = true
def spSigned (K : PySem.W.Frag) : Sp := fun vs H Q _ => ∃ (z : Str) (i : Nat) (p : Sg × Bool), vs = [.str z, .bl (decide (i = 0))] ∧ tl z = mk p.2 :: p.1 ∧ z.length ≤ 100000 ∧ RtQ K H Q (one4 i p)
theorem scSigned : FnScope ["piece", "first", "mark", "body", "term", "c", "k", "q"] ["piece", "first"] (defScope pSigned) := ⟨rfl, rfl, rfl, by decide +kernel, rfl, by decide +kernel, by decide +kernel⟩
theorem ok_signed {f : Addr} {fd : FuncData} (F : Fun K "signed_term" "signed_term" pSigned f fd) (U : SgnT P w K mg base) : FnOk P w K mg base CX0 6 f fd ["piece", "first"] (spSigned K) := by
  refine F.ok scSigned (fun vs H Q E h => ?_) (fun cdv A outer s H vs Q E hr h => ?_)
  · obtain ⟨z, i, p, rfl, _⟩ := h
    rfl
  · obtain ⟨z, i, p, rfl, ez, hz, q⟩ := h
    have hr1 : Room 1 _ := hr.mono (by decide)
    refine ⟨_, pss_cons (ps_set (i := 2) scSigned.nd rfl (.inl rfl) (pe_ix ix_str (pv 0) pe_int (fun _ _ => rfl)))
      (pss_cons (ps_set (i := 3) scSigned.nd rfl (.inl rfl) (pe_slice sl_str (pv 0) (po_some pe_int) po_none))
      (pss_cut (ps_if (PW.pt (pw_and (pt_val (pv 1)) (pw_and1 (pt_val (pe_m1 PySem.F.slot_str_startswith PySem.F.type_str_startswith mt_startswith (pv 3) pe_str)))))
        (pss_cons (ps_set (i := 2) scSigned.nd rfl (.inl rfl) pe_str) (pss_one (ps_set (i := 3) scSigned.nd rfl (.inl rfl) (pe_slice sl_str (pv 3) (po_some pe_int) po_none)))) pss_nil)
      (pss_cons (ps_set (i := 4) scSigned.nd rfl (.inl rfl) (pe_call U.FB hr (by rfl) U.gB U.kB U.bB .nil pass0 (pa_cons (pv 3) pa_nil)))
      (pss_cons (ps_if (PW.pt (pw_or (pt_cmpR op_isN (pv 4) pe_non (nomark _)) (pw_or1 (pt_cmpR op_eq (pv 2) pe_str (nomark _))))) (pss_one (ps_ret (pv 4))) pss_nil)
      (pss_cons (ps_asg (pv 4) (pg_tup (by rfl) (pgs_cons (pg_name (i := 5) scSigned.nd rfl (.inl rfl)) (pgs_cons (pg_name (i := 6) scSigned.nd rfl (.inl rfl)) (pgs_cons (pg_name (i := 7) scSigned.nd rfl (.inl rfl)) pgs_nil)))))
      (pss_one (ps_ret (pe_tup (pa_cons (pe_call U.FN hr1 (by rfl) U.gN U.kN U.bN .nil pass0 (pa_cons (pv 5) pa_nil)) (pa_cons (pv 6) (pa_cons (pv 7) pa_nil))))))))))), ?_⟩
    have hsz := size_ok (show z.length ≤ 1000000 by omega)
    have hcut : ∀ x : Str, x.length ≤ 100000 → (cutS x (some 1) none).length ≤ 100000 ∧ tl (cutS x (some 1) none) = (tl x).drop 1 := fun x hx => ⟨Nat.le_trans (cutS_length _ _ _) hx, cut_from x 1⟩
    obtain ⟨h1, h2⟩ := hcut z hz
    rw [ez] at h2
    have h2 : tl (cutS z (some 1) none) = p.1 := h2
    refine ⟨_, rfl, z, 0, mk p.2, rfl, rfl, hsz, atI_nat (j := 0) (by show (tl z)[0]? = _; rw [ez]; rfl), ?_⟩
    refine ⟨_, rfl, 1, rfl, z, rfl, hsz, ?_⟩
    generalize cutS z (some 1) none = z1 at *
    refine ⟨fun σ G => ∃ m z2 : Str, σ = [some (.str z), some (.bl (decide (i = 0))), some (.str m), some (.str z2), none, none, none, none] ∧ G = H ∧ tl m = [mk (fst4 i p).2] ∧ tl z2 = (fst4 i p).1 ∧ z2.length ≤ 100000, ?_, ?_⟩
    · refine ⟨_, rfl, _, rfl, ?_⟩
      have same : (¬ (i = 0 ∧ p.1.head? = some 45)) → fst4 i p = p := fun n => if_neg n
      refine ite2 (fun c => ?_) (fun c => ?_)
      · have c : i = 0 := of_decide_eq_true c
        refine ⟨_, rfl, ⟨_, rfl⟩, z1, _, rfl, rfl, _, rfl, ?_⟩
        rw [start_minus (y := "-") rfl, h2]
        by_cases hd : p.1.head? = some 45
        · have e : (p.1.head? == some 45) = true := by rw [hd]; rfl
          rw [e]
          refine iteT ?_
          have ef : fst4 i p = (p.1.tail, true) := if_pos ⟨c, hd⟩
          rw [ef]
          obtain ⟨h3, h4⟩ := hcut z1 h1
          refine ⟨_, rfl, 1, rfl, z1, rfl, size_ok (by omega), ?_⟩
          refine ⟨_, _, rfl, rfl, rfl, ?_, h3⟩
          rw [h4, h2, List.drop_one]
        · have e : (p.1.head? == some 45) = false := by simpa using hd
          rw [e]
          refine iteF ?_
          rw [same fun y => hd y.2]
          exact ⟨_, _, rfl, rfl, rfl, h2, h1⟩
      · have c : ¬ i = 0 := fun y => c (decide_eq_true y)
        rw [same fun y => c y.1]
        exact ⟨_, _, rfl, rfl, rfl, h2, h1⟩
    rintro σ G ⟨m, z2, rfl, rfl, em, e2, hz2⟩
    unfold one4 at q
    generalize fst4 i p = pp at *
    obtain ⟨r, b⟩ := pp
    dsimp only at em e2 q
    refine ⟨_, rfl, z2, rfl, hz2, ?_⟩
    rw [bare_law, e2]
    cases el : lawP r with
    | none =>
      rw [el] at q
      intro H1 s1
      exact ⟨_, rfl, rfl, _, rfl, iteT ⟨_, rfl, q _ s1⟩⟩
    | some t =>
      rw [el] at q
      intro a H1 s1 na ta
      refine ⟨_, rfl, rfl, _, rfl, iteF ?_⟩
      refine ⟨_, rfl, rfl, _, rfl, ?_⟩
      obtain ⟨ca, qa, t1, t2, t3⟩ := ta
      cases b with
      | false =>
        have : m = "+" := ext_tl em
        subst this
        refine iteT ?_
        exact ⟨_, rfl, q a H1 s1 na ⟨ca, qa, t1, t2, t3⟩⟩
      | true =>
        have : m = "-" := ext_tl em
        subst this
        refine iteF ?_
        refine ⟨_, rfl, a, _, rfl, SqT.of t1, rfl, _, _, rfl, _, _, rfl, _, _, rfl, rfl, ?_⟩
        refine ⟨_, rfl, ca, _, _, rfl, t2.sq, fun p2 np2 => ?_⟩
        have s2 : Same H1 (L2.upd H1 p2 (.tup [.int (-t.1.1), .int t.1.2])) := same_upd np2
        have hp2 : L2.upd H1 p2 (.tup [.int (-t.1.1), .int t.1.2]) p2 = some (.tup [.int (-t.1.1), .int t.1.2]) := upd_same
        generalize L2.upd H1 p2 (.tup [.int (-t.1.1), .int t.1.2]) = H2 at *
        refine ⟨_, rfl, _, rfl, (by show 3 ≤ sizeLine; decide), fun p3 np3 => ?_⟩
        have s3 : Same H2 (L2.upd H2 p3 (.tup [.ref p2, .int t.2.1, .ref qa])) := same_upd np3
        exact q p3 _ (s1.trans (s2.trans s3)) ((s1.trans s2).free np3) ⟨p2, qa, upd_same, TupAt.of (s3 _ _ hp2), Nm.TupAt.same (s2.trans s3) t3⟩
/-! ### pieces_of -/
def mkP (p : Sg × Bool) : Sg := mk p.2 :: p.1
def spPieces : Sp := fun vs H Q _ => ∃ z : Str, vs = [.str z] ∧ z.length ≤ 90000 ∧ ∀ (l : Addr) (ps : List Str) H', Same H H' → H l = none → H' l = some (.lst (ps.map V.str)) → ps.map tl = (pcs 0 [] false (tl z)).map mkP → ps.length ≤ 90001 → (∀ y ∈ ps, y.length ≤ 100000) → Q (.ref l) H'
theorem cut3_take (l : Sg) : cut3 l = if l.take 3 = [32, 43, 32] then some false else if l.take 3 = [32, 45, 32] then some true else none := by
  unfold cut3
  split
  · rfl
  · rfl
  · rename_i h1 h2
    match l with
    | [] => rfl
    | [a] => rw [if_neg (by simp), if_neg (by simp)]
    | [a, b] => rw [if_neg (by simp), if_neg (by simp)]
    | a :: b :: c :: r =>
      rw [if_neg, if_neg]
      · intro e
        simp only [List.take_succ_cons, List.take_zero, List.cons.injEq, and_true] at e
        exact h2 r (by rw [e.1, e.2.1, e.2.2])
      · intro e
        simp only [List.take_succ_cons, List.take_zero, List.cons.injEq, and_true] at e
        exact h1 r (by rw [e.1, e.2.1, e.2.2])
theorem in_cut {x : Str} {l : Sg} (h : tl x = l.take 3) : inV (.str x) [.str " + ", .str " - "] = (cut3 l).isSome := by
  have e1 : ((" + " : Str) == x) = decide (l.take 3 = [32, 43, 32]) := by
    rw [← h]
    by_cases c : tl x = [32, 43, 32]
    · have : x = " + " := ext_tl c
      rw [decide_eq_true c, this]
      exact beq_self_eq_true _
    · rw [decide_eq_false c, beq_eq_false_iff_ne]
      intro e
      exact c (by rw [← e]; rfl)
  have e2 : ((" - " : Str) == x) = decide (l.take 3 = [32, 45, 32]) := by
    rw [← h]
    by_cases c : tl x = [32, 45, 32]
    · have : x = " - " := ext_tl c
      rw [decide_eq_true c, this]
      exact beq_self_eq_true _
    · rw [decide_eq_false c, beq_eq_false_iff_ne]
      intro e
      exact c (by rw [← e]; rfl)
  show (((" + " : Str) == x) || (((" - " : Str) == x) || false)) = _
  rw [e1, e2, cut3_take]
  by_cases c1 : l.take 3 = [32, 43, 32]
  · rw [if_pos c1, decide_eq_true c1]
    rfl
  · rw [if_neg c1, decide_eq_false c1]
    by_cases c2 : l.take 3 = [32, 45, 32]
    · rw [if_pos c2, decide_eq_true c2]
      rfl
    · rw [if_neg c2, decide_eq_false c2]
      rfl
theorem cut3_some {l : Sg} {b : Bool} (h : cut3 l = some b) : ∃ r, l = 32 :: mk b :: 32 :: r := by
  unfold cut3 at h
  split at h
  · obtain rfl := Option.some.inj h
    exact ⟨_, rfl⟩
  · obtain rfl := Option.some.inj h
    exact ⟨_, rfl⟩
  · cases h
theorem scPieces : FnScope ["text", "pieces", "start", "mark", "place"] ["text"] (defScope pPieces) := ⟨rfl, rfl, rfl, by decide +kernel, rfl, by decide +kernel, by decide +kernel⟩
theorem take_step {l : Sg} {s p : Nat} (h : s ≤ p) (hp : p < l.length) : (l.drop s).take (p + 1 - s) = (l.drop s).take (p - s) ++ [l[p]] := by
  have e : p + 1 - s = (p - s) + 1 := by omega
  rw [e, List.take_add_one, List.getElem?_drop]
  have e2 : s + (p - s) = p := by omega
  rw [e2, List.getElem?_eq_getElem hp]
  rfl
theorem ok_pieces {f : Addr} {fd : FuncData} {k : Nat} (F : Fun K "pieces_of" "pieces_of" pPieces f fd) (ln : mg "len" = none) : FnOk P w K mg base CX0 (k + 1) f fd ["text"] spPieces := by
  refine F.ok scPieces (fun vs H Q E h => ?_) (fun cdv A outer s H vs Q E hr h => ?_)
  · obtain ⟨z, rfl, _⟩ := h
    rfl
  · obtain ⟨z, rfl, hz, q⟩ := h
    refine ⟨_, pss_cons (ps_set (i := 1) scPieces.nd rfl (.inl rfl) (pe_lst pa_nil))
      (pss_cons (ps_set (i := 2) scPieces.nd rfl (.inl rfl) pe_int)
      (pss_cons (ps_set (i := 3) scPieces.nd rfl (.inl rfl) pe_str)
      (pss_cons (ps_set (i := 4) scPieces.nd rfl (.inl rfl) pe_int)
      (pss_cons (ps_while PassesOwn.never (pt_cmpR op_lt (pv 4) (pe_callB call_len_str (by rfl) ln PySem.boot_len (pa_cons (pv 0) pa_nil)) (nomark _))
        (pss_one (ps_if (pt_cmpR op_in_seq (pe_slice sl_str (pv 0) (po_some (pv 4)) (po_some (pe_op op_add (pv 4) pe_int))) (pe_tup (pa_cons pe_str (pa_cons pe_str pa_nil))) (by rfl))
          (pss_cons (ps_expr (pe_bm PySem.F.plainAttrs_list PySem.F.slot_list_append PySem.F.type_list_append mt_append (pv 1) (pa_cons (pe_op op_add_str (pv 3) (pe_slice sl_str (pv 0) (po_some (pv 2)) (po_some (pv 4)))) pa_nil)))
          (pss_cons (ps_set (i := 3) scPieces.nd rfl (.inl rfl) (pe_ix ix_str (pv 0) (pe_op op_add (pv 4) pe_int) (fun _ _ => rfl)))
          (pss_cons (ps_aug (i := 4) scPieces.nd rfl (.inl rfl) pe_int ip_add)
          (pss_one (ps_set (i := 2) scPieces.nd rfl (.inl rfl) (pv 4))))))
          (pss_one (ps_aug (i := 4) scPieces.nd rfl (.inl rfl) pe_int ip_add)))))
      (pss_cons (ps_expr (pe_bm PySem.F.plainAttrs_list PySem.F.slot_list_append PySem.F.type_list_append mt_append (pv 1) (pa_cons (pe_op op_add_str (pv 3) (pe_slice sl_str (pv 0) (po_some (pv 2)) po_none)) pa_nil)))
      (pss_one (ps_ret (pv 1)))))))), ?_⟩
    obtain ⟨n, en⟩ : ∃ n, n = (tl z).length := ⟨_, rfl⟩
    have hn : z.length = n := by rw [len_s, en]
    have hsz : z.length ≤ sizeLine := size_ok (by omega)
    refine ⟨Nat.zero_le _, fun l nl => ?_⟩
    refine while_by (fun σ G => ∃ (m : Str) (st pl : Nat) (ps : List Str) (b : Bool), σ = [some (.str z), some (.ref l), some (.int st), some (.str m), some (.int pl)] ∧ Same H G ∧ G l = some (.lst (ps.map V.str)) ∧ tl m = [mk b] ∧ st ≤ pl ∧ pl ≤ n ∧
        ps.map tl ++ (pcs 0 (((tl z).drop st).take (pl - st)) b ((tl z).drop pl)).map mkP = (pcs 0 [] false (tl z)).map mkP ∧ ps.length ≤ pl ∧ (∀ y ∈ ps, y.length ≤ 100000)) (fun σ _ => match σ with | [_, _, _, _, some (.int p)] => n - p.toNat | _ => 0)
      ⟨"+", 0, 0, [], false, rfl, same_upd nl, upd_same, rfl, Nat.le_refl _, Nat.zero_le _, by simp, Nat.le_refl _, fun _ h => nomatch h⟩ ?_ ?_
    · rintro σ G ⟨m, st, pl, ps, b, rfl, sG, hl, em, h1, h2, ep, lp, hp⟩
      have lm : m.length ≤ 1 := by rw [len_s, em]; exact Nat.le_refl 1
      refine ⟨_, rfl, _, rfl, z, rfl, hsz, (pl : Int), (z.length : Int), rfl, rfl, _, rfl, ?_⟩
      refine ite2 (fun c => ?_) (fun c => ?_)
      · have c : (pl : Int) < (z.length : Int) := of_decide_eq_true c
        have hpl : pl < (tl z).length := by rw [← en]; omega
        have hcut : tl (cutS z (some (pl : Int)) (some ((pl : Int) + 3))) = ((tl z).drop pl).take 3 := by
          have x := cut_mid z pl (pl + 3) (by omega)
          rw [show pl + 3 - pl = 3 by omega] at x
          exact x
        have hcut2 : tl (cutS z (some (st : Int)) (some (pl : Int))) = ((tl z).drop st).take (pl - st) := cut_mid z st pl h1
        refine ⟨_, rfl, _, rfl, (pl : Int), rfl, _, rfl, (pl : Int), 3, rfl, rfl, (pl : Int) + 3, rfl, z, rfl, hsz, (by show 2 ≤ sizeLine; decide), fun p2 np2 => ?_⟩
        have s2 : Same G (L2.upd G p2 (.tup [.str " + ", .str " - "])) := same_upd np2
        have hp2 : L2.upd G p2 (.tup [.str " + ", .str " - "]) p2 = some (.tup [.str " + ", .str " - "]) := upd_same
        generalize L2.upd G p2 (.tup [.str " + ", .str " - "]) = G2 at *
        refine ⟨p2, _, rfl, .inr (SqT.of hp2), rfl, rfl, _, rfl, ?_⟩
        dsimp only [Bool.false_eq_true, if_false]
        rw [in_cut hcut]
        have ed : (tl z).drop pl = (tl z)[pl] :: (tl z).drop (pl + 1) := List.drop_eq_getElem_cons hpl
        cases e3 : cut3 ((tl z).drop pl) with
        | some b' =>
          refine iteT ?_
          obtain ⟨r, er⟩ := cut3_some e3
          have hl3 : pl + 3 ≤ n := by
            have := congrArg List.length er
            rw [List.length_drop] at this
            simp only [List.length_cons] at this
            omega
          have lc : (cutS z (some (st : Int)) (some (pl : Int))).length ≤ z.length := cutS_length _ _ _
          refine ⟨.ref l, rfl, .inl ⟨rfl, _, SqL.of (s2 _ _ hl)⟩, _, rfl, _, rfl, _, rfl, (st : Int), rfl, _, rfl, (pl : Int), rfl, z, rfl, hsz, m, _, rfl, rfl, Nat.le_trans (Nat.add_le_add lm lc) (size_ok (by omega)), l, _, _, rfl, rfl, s2 _ _ hl, by rw [List.length_map]; exact Nat.lt_of_le_of_lt (show ps.length ≤ 90001 by omega) (by decide), ?_⟩
          generalize eG3 : L2.upd G2 l _ = G3
          have hl4 : G3 l = some (.lst ((ps ++ [m ++ cutS z (some (st : Int)) (some (pl : Int))]).map V.str)) := by
            rw [← eG3, upd_same, List.map_append]
            rfl
          have s3 : Same H G3 := fun c o hc => by
            rw [← eG3, upd_ne (ne_of_none hc nl)]
            exact s2 _ _ (sG _ _ hc)
          have hat : (tl z)[pl + 1]? = some (mk b') := by
            have : ((tl z).drop pl)[1]? = some (mk b') := by rw [er]; rfl
            rw [List.getElem?_drop] at this
            exact this
          refine ⟨_, rfl, _, rfl, (pl : Int), 1, rfl, rfl, z, (pl : Int) + 1, mk b', rfl, rfl, hsz, atI_nat (j := pl + 1) hat, ?_⟩
          refine ⟨_, rfl, (pl : Int), 3, rfl, rfl, ?_⟩
          refine ⟨_, rfl, ⟨⟨#[mk b']⟩, pl + 3, pl + 3, ps ++ [m ++ cutS z (some (st : Int)) (some (pl : Int))], b', rfl, s3, hl4, rfl, Nat.le_refl _, hl3, ?_, ?_, ?_⟩, ?_⟩
          · rw [er, pcs_cut (b' := b') (by rw [← er]; exact e3)] at ep
            have ed3 : (tl z).drop (pl + 3) = r := by
              have x : ((tl z).drop pl).drop 3 = r := by rw [er]; rfl
              rw [List.drop_drop] at x
              exact x
            rw [ed3, Nat.sub_self, List.take_zero, List.map_append, ← ep, List.append_assoc]
            congr 1
            show [tl (m ++ cutS z (some (st : Int)) (some (pl : Int)))] ++ _ = _ :: _
            rw [tl_append, em, hcut2]
            rfl
          · rw [List.length_append]
            show ps.length + 1 ≤ pl + 3
            omega
          · intro y hy
            rcases List.mem_append.mp hy with hy | hy
            · exact hp y hy
            · rw [List.mem_singleton.mp hy, Str.length_append]
              omega
          · show n - (((pl : Int) + 3)).toNat < n - ((pl : Int)).toNat
            omega
        | none =>
          refine iteF ?_
          refine ⟨_, rfl, (pl : Int), 1, rfl, rfl, ⟨m, st, pl + 1, ps, b, rfl, sG.trans s2, s2 _ _ hl, em, by omega, by omega, ?_, by omega, hp⟩, ?_⟩
          · rw [ed, pcs_go (by rw [← ed]; exact e3)] at ep
            rw [take_step h1 hpl]
            exact ep
          · show n - (((pl : Int) + 1)).toNat < n - ((pl : Int)).toNat
            omega
      · have c : ¬ (pl : Int) < (z.length : Int) := fun y => c (decide_eq_true y)
        have epl : pl = n := by omega
        have hcut : tl (cutS z (some (st : Int)) none) = (tl z).drop st := cut_from z st
        have lc : (cutS z (some (st : Int)) none).length ≤ z.length := cutS_length _ _ _
        refine ⟨.ref l, rfl, .inl ⟨rfl, _, SqL.of hl⟩, _, rfl, _, rfl, _, rfl, (st : Int), rfl, z, rfl, hsz, m, _, rfl, rfl, Nat.le_trans (Nat.add_le_add lm lc) (size_ok (by omega)), l, _, _, rfl, rfl, hl, by rw [List.length_map]; exact Nat.lt_of_le_of_lt (show ps.length ≤ 90001 by omega) (by decide), ?_⟩
        refine ⟨_, rfl, q l (ps ++ [m ++ cutS z (some (st : Int)) none]) _ (fun c o hc => ?_) nl ?_ ?_ ?_ ?_⟩
        · rw [upd_ne (ne_of_none hc nl)]
          exact sG _ _ hc
        · rw [upd_same, List.map_append]
          rfl
        · rw [epl, en, List.drop_length, pcs_nil, List.take_of_length_le (by rw [List.length_drop]; exact Nat.le_refl _)] at ep
          rw [← ep, List.map_append]
          congr 1
          show [tl (m ++ cutS z (some (st : Int)) none)] = _
          rw [tl_append, em, hcut]
          rfl
        · rw [List.length_append]
          show ps.length + 1 ≤ 90001
          omega
        · intro y hy
          rcases List.mem_append.mp hy with hy | hy
          · exact hp y hy
          · rw [List.mem_singleton.mp hy, Str.length_append]
            omega
    · intro σ G Q1 Q2 h12 hq
      obtain ⟨v, e, y, e2, z', e3, hl, i, j, e4, e5, b, e6, h⟩ := hq
      exact ⟨v, e, y, e2, z', e3, hl, i, j, e4, e5, b, e6, h12 _ _ h⟩
end
end Nm

/-! The program's read_curve. -/
namespace Nm
open PySem PySem.Spec PyProof.Rows L2 LamX TL
abbrev pReadC : Stmt := topS 32
theorem for_enum {K : PySem.W.Frag} {a : Addr} {xs : List V} {g : TG} {tb : TS} {D : Ends} {σ : L2.St} {H : Hp} (Pv : Nat → L2.St → Hp → Prop) (h0 : Pv 0 σ H) (hl : ∀ i σ H, i ≤ xs.length → Pv i σ H → SqL K H a xs)
    (hs : ∀ (i : Nat) (x : V) (T : Addr) (σ : L2.St) (H : Hp), xs[i]? = some x → Pv i σ H → H T = none → g (.ref T) σ (L2.upd H T (.tup [.int (i : Nat), x])) fun σ2 H2 => tb { D with nx := Pv (i + 1), ct := Pv (i + 1), bk := D.nx } σ2 H2) (hd : ∀ σ H, Pv xs.length σ H → D.nx σ H) :
    ∃ W : Nat → Nat → L2.St → Hp → Prop, (∃ m, W 0 m σ H) ∧ ∀ i m σ H, W i m σ H →
      ((Ite K a).stop i H ∧ D.nx σ H) ∨ ((Ite K a).go i H ∧ ∃ N : L2.St → Hp → Prop, (∀ σ' H', N σ' H' → ∃ m', m' < m ∧ W (i + 1) m' σ' H') ∧ ∀ v H', (Ite K a).yld i H v H' → g v σ H' fun σ2 H2 => tb { D with nx := N, ct := N, bk := D.nx } σ2 H2) := by
  refine ⟨fun i m σ H => m = xs.length - i ∧ i ≤ xs.length ∧ Pv i σ H, ⟨xs.length, rfl, Nat.zero_le _, h0⟩, ?_⟩
  rintro i m σ H ⟨rfl, hi, p⟩
  have qx := hl i σ H hi p
  by_cases hlt : i < xs.length
  · refine .inr ⟨⟨xs, xs[i], qx, List.getElem?_eq_getElem hlt⟩, Pv (i + 1), fun σ' H' p' => ⟨xs.length - (i + 1), by omega, rfl, hlt, p'⟩, fun v H' y => ?_⟩
    obtain ⟨T, x', rfl, hT, rfl, f1⟩ := y
    exact hs i x' T σ H (f1 xs qx) p hT
  · have e : i = xs.length := by omega
    subst e
    exact .inl ⟨⟨xs, qx, Nat.le_refl _⟩, hd σ H p⟩
/-! ### right terms -/
theorem tr_ok {t : T4} (h : TR t) : TmOk t := by
  obtain ⟨⟨h1, h2, h3, h4, h5⟩, ⟨h6, h7⟩, h8⟩ := h
  have h1 : (0 : Int) < (t.1.1.natAbs : Int) := h1
  have h2 : 0 < t.1.2 := h2
  have h3 : Int.gcd (t.1.1.natAbs : Int) t.1.2 = 1 := h3
  have h4 : (t.1.1.natAbs : Int) < 10 ^ 30 := h4
  have h5 : t.1.2 < 10 ^ 30 := h5
  exact ⟨⟨by omega, h2, h3, by omega, by omega⟩, h8, h6, h7⟩
theorem one_tr {i : Nat} {p : Sg × Bool} {t : T4} (h : one4 i p = some t) : TR t := by
  unfold one4 at h
  cases e : lawP (fst4 i p).1 with
  | none => rw [e] at h; cases h
  | some u =>
    rw [e] at h
    obtain rfl := Option.some.inj h
    obtain ⟨⟨h1, h2, h3⟩, _⟩ := law_iff.mp e
    unfold sg4
    cases (fst4 i p).2 with
    | true =>
      have hp := h1.1
      have ea : (((-u.1.1).natAbs : Nat) : Int) = u.1.1 := by omega
      show TV ((((-u.1.1).natAbs : Int), u.1.2), u.2)
      rw [ea]
      exact ⟨h1, h2, h3⟩
    | false =>
      have hp := h1.1
      have ea : ((u.1.1.natAbs : Nat) : Int) = u.1.1 := by omega
      show TV (((u.1.1.natAbs : Int), u.1.2), u.2)
      rw [ea]
      exact ⟨h1, h2, h3⟩
theorem tmOf_tmD {t : Tm} (h : TmOk t) : tmOf (tmD t) = some t := by
  obtain ⟨⟨c1, c2, c3, _, _⟩, ⟨q1, q2, q3, q4, q5⟩, k1, k2⟩ := h
  have q1 : 1 ≤ t.2.2.2 := q1
  have q2 : t.2.2.2 ≤ 4 := q2
  have q3 : Int.gcd t.2.2.1 t.2.2.2 = 1 := q3
  have q4 : -(4 * t.2.2.2) ≤ t.2.2.1 := q4
  have q5 : t.2.2.1 ≤ 4 * t.2.2.2 := q5
  have k1 : 0 ≤ t.2.1 := k1
  have k2 : t.2.1 ≤ 3 := k2
  have e1 : pairD (.tuple [.int t.1.1, .int t.1.2]) = some t.1 := if_pos ⟨c2, c3⟩
  have e2 : pairD (.tuple [.int t.2.2.1, .int t.2.2.2]) = some t.2.2 := if_pos ⟨by omega, q3⟩
  unfold tmD
  rw [tmOf_at e1 e2]
  refine if_pos ⟨c1, ⟨k1, k2⟩, q2, ?_⟩
  split <;> omega
open Classical in
theorem go_snoc : ∀ (ts : List Tm) (prev : Option Tm) (i : Nat) (t : Tm), dueGo prev i (ts.map tmD) = none → (∀ u ∈ ts, TmOk u) → TmOk t → okBehind (ts.getLast?.or prev) t → dueGo prev i ((ts ++ [t]).map tmD) = none
  | [], prev, i, t, _, _, ht, hb => by
    show (match tmOf (tmD t) with | none => some i | some t => if okBehind prev t then dueGo (some t) (i + 1) [] else some i) = none
    rw [tmOf_tmD ht]
    exact if_pos hb
  | u :: r, prev, i, t, h, hu, ht, hb => by
    have h : (match tmOf (tmD u) with | none => some i | some t => if okBehind prev t then dueGo (some t) (i + 1) (r.map tmD) else some i) = none := h
    show (match tmOf (tmD u) with | none => some i | some x => if okBehind prev x then dueGo (some x) (i + 1) ((r ++ [t]).map tmD) else some i) = none
    rw [tmOf_tmD (hu u List.mem_cons_self)] at h ⊢
    by_cases c : okBehind prev u
    · have h : (if okBehind prev u then dueGo (some u) (i + 1) (r.map tmD) else some i) = none := h
      rw [if_pos c] at h
      show (if okBehind prev u then dueGo (some u) (i + 1) ((r ++ [t]).map tmD) else some i) = none
      rw [if_pos c]
      refine go_snoc r (some u) (i + 1) t h (fun x hx => hu x (List.mem_cons_of_mem _ hx)) ht ?_
      rw [List.getLast?_cons] at hb
      cases e : r.getLast? with
      | none => rw [e] at hb; exact hb
      | some y => rw [e] at hb; exact hb
    · have h : (if okBehind prev u then dueGo (some u) (i + 1) (r.map tmD) else some i) = none := h
      rw [if_neg c] at h
      cases h
def isS : PyData → Bool | .str _ => true | _ => false
theorem kit_s {K : PySem.W.Frag} (d : PyData) : PySem.W.kitOne K (.type (tyN d)) (.type "str") = some (isS d) := by
  cases d
  · exact kit_ty (show kitB "NoneType" "str" = some false by decide +kernel)
  · exact kit_ty (show kitB "bool" "str" = some false by decide +kernel)
  · exact kit_ty (show kitB "int" "str" = some false by decide +kernel)
  · exact kit_ty (show kitB "str" "str" = some true by decide +kernel)
  · exact kit_ty (show kitB "list" "str" = some false by decide +kernel)
  · exact kit_ty (show kitB "tuple" "str" = some false by decide +kernel)
  · exact kit_ty (show kitB "dict" "str" = some false by decide +kernel)
/-- what reading a thing comes to: the index of what is wrong, or the terms -/
noncomputable def rdOf : PyData → Sum Int (List T4)
  | .str z => match readF (tl z) with | .inl i => .inl (i : Nat) | .inr ts => .inr ts
  | _ => .inl (-1)
structure TxtB (P : Program) (K : PySem.W.Frag) (mg : Str → Option Value) (C : Addr) where
  st : Stmt
  qual : Str
  fI : Addr
  cc : Addr
  cda : Addr
  txt : Str
  file : Str
  T : XI K st qual C fI cc cda "index" txt file
  pf : PF P file
  sup : mg "super" = none
  gC : mg "BadText" = some (.ref C)
  tyC : PySem.W.typeIn K (.ref C) = some (.type "type")
section
variable {P : Program} {w : World} {K : PySem.W.Frag} {mg : Str → Option Value} {base : Heap}
theorem TmQ.de {H : Hp} {p : Addr} {t : T4} (h : TmQ K H p t) : DE K Tt H (.ref p) (tmD t) := by
  obtain ⟨ca, qa, h1, h2, h3⟩ := h
  exact .tup (TupAt.of h1) (.cons (.tup h2 (.cons (.int _) (.cons (.int _) .nil))) (.cons (.int _) (.cons (.tup h3 (.cons (.int _) (.cons (.int _) .nil))) .nil)))
theorem TmQ.same {H H' : Hp} {p : Addr} {t : T4} (s : Same H H') (h : TmQ K H p t) : TmQ K H' p t := by
  obtain ⟨ca, qa, h1, h2, h3⟩ := h
  exact ⟨ca, qa, s _ _ h1, Nm.TupAt.same s h2, Nm.TupAt.same s h3⟩
theorem TmQ.updL {H : Hp} {p l : Addr} {t : T4} {ys : List V} {o : HO} (hl : H l = some (.lst ys)) (h : TmQ K H p t) : TmQ K (L2.upd H l o) p t := by
  obtain ⟨ca, qa, h1, h2, h3⟩ := h
  exact ⟨ca, qa, by rw [upd_ne (ne_of h1 hl (fun z => nomatch z))]; exact h1, Nm.TupAt.updL hl h2, Nm.TupAt.updL hl h3⟩
theorem TupAt.off {H : Hp} {a l : Addr} {xs ys : List V} (hl : H l = some (.lst ys)) (h : TupAt K Tt H a xs) : TupAt K (fun c => c ≠ l) H a xs := h.elim (fun h => .inl ⟨ne_of h.2 hl (fun z => nomatch z), h.2⟩) .inr
theorem TmQ.off {H : Hp} {p l : Addr} {t : T4} {ys : List V} (hl : H l = some (.lst ys)) (h : TmQ K H p t) : DE K (fun c => c ≠ l) H (.ref p) (tmD t) := by
  obtain ⟨ca, qa, h1, h2, h3⟩ := h
  exact .tup (Nm.TupAt.off hl (TupAt.of h1)) (.cons (.tup (Nm.TupAt.off hl h2) (.cons (.int _) (.cons (.int _) .nil))) (.cons (.int _) (.cons (.tup (Nm.TupAt.off hl h3) (.cons (.int _) (.cons (.int _) .nil))) .nil)))
theorem DEs.snoc {S : Addr → Prop} {H : Hp} {v : V} {d : PyData} : ∀ {vs : List V} {ds : List PyData}, DEs K S H vs ds → DE K S H v d → DEs K S H (vs ++ [v]) (ds ++ [d])
  | _, _, .nil, h => .cons h .nil
  | _, _, .cons x r, h => .cons x (DEs.snoc r h)
theorem DEs.upd {H : Hp} {l : Addr} {o : HO} {vs : List V} {ds : List PyData} (h : DEs K (fun c => c ≠ l) H vs ds) : DEs K (fun c => c ≠ l) (L2.upd H l o) vs ds := DEs.keep (fun a o' s _ e => ⟨s, by rw [upd_ne s]; exact e⟩) h
theorem Same.ins {H H1 H2 : Hp} {x dx Cc : Addr} {o : HO} (nx : H x = none) (ndx : H dx = none) (e1 : Same (L2.upd (L2.upd H dx (.own x)) x (.ins Cc dx [])) H1) : Same H (L2.upd H1 x o) := fun c u h => by
  rw [upd_ne (ne_of_none h nx)]
  exact e1 _ _ (by rw [upd_ne (ne_of_none h nx), upd_ne (ne_of_none h ndx)]; exact h)
theorem dec0 (i : Nat) : decide (V.int (i : Int) = V.int 0) = decide (i = 0) := by
  by_cases c : i = 0
  · subst c; rfl
  · rw [decide_eq_false c, decide_eq_false]
    intro e
    injection e with e
    omega
structure RcvT (P : Program) (w : World) (K : PySem.W.Frag) (mg : Str → Option Value) (base : Heap) (Cc C0 : Addr) where
  fP : Addr
  fdP : FuncData
  fS : Addr
  fdS : FuncData
  fB : Addr
  fdB : FuncData
  fI : Addr
  fdI : FuncData
  FP : FnOk P w K mg base CX0 1 fP fdP ["text"] spPieces
  FS : FnOk P w K mg base CX0 6 fS fdS ["piece", "first"] (spSigned K)
  FB : FnOk P w K mg base CX0 2 fB fdB ["term", "other"] (spPBehind K)
  FI : FnOk P w K mg base (L2.CX P w) 6 fI fdI ["self", "terms"] (spInit K Cc C0)
  bP : Binds K fdP ["text"] []
  bS : Binds K fdS ["piece", "first"] []
  bB : Binds K fdB ["term", "other"] []
  bI : Binds K fdI ["self", "terms"] []
  gP : mg "pieces_of" = some (.ref fP)
  gS : mg "signed_term" = some (.ref fS)
  gB : mg "stands_behind" = some (.ref fB)
  kP : PySem.W.keepIn K (.ref fP) = true
  kS : PySem.W.keepIn K (.ref fS) = true
  kB : PySem.W.keepIn K (.ref fB) = true
  mkI : Mk K Cc fI
  cv : CvK K mg Cc
  mT : ∃ t, mg "MOST_TERMS" = some (.int 8 t)
  str : mg "str" = none
def spReadC (K : PySem.W.Frag) (Cc C : Addr) : Sp := fun vs H Q E => ∃ (x : V) (d : PyData), vs = [x] ∧ DE K Tt H x d ∧ (∀ z, d = .str z → z.length ≤ 90000) ∧
  (∀ i, rdOf d = .inl i → ∀ dd H', Same H H' → H dd = none → H' dd = some (.xd [(PySem.Str.ofString "index", .int i)]) → E (.ref C) (some dd) H') ∧
  (∀ ts, rdOf d = .inr ts → ∀ a v H', Same H H' → H a = none → CvAt Cc H' a v → DE K Tt H' v (cvD ts) → Q (.ref a) H')
theorem scReadC : FnScope ["text", "terms", "index", "piece", "term"] ["text"] (defScope pReadC) := ⟨rfl, rfl, rfl, by decide +kernel, rfl, by decide +kernel, by decide +kernel⟩
open Classical in
theorem ok_readc {f C Cc C0 : Addr} {fd : FuncData} (F : Fun K "read_curve" "read_curve" pReadC f fd) (J : JudT mg) (U : RcvT P w K mg base Cc C0) (B : TxtB P K mg C) : FnOk P w K mg base (L2.CX P w) 8 f fd ["text"] (spReadC K Cc C) := by
  refine F.okX scReadC (fun vs H Q E h => ?_) (fun cdv A outer s H vs Q E hr h => ?_)
  · obtain ⟨x, d, rfl, _⟩ := h
    rfl
  · obtain ⟨x, d, rfl, hd, hlen, q1, q2⟩ := h
    have hr1 : Room 1 _ := hr.mono (by decide)
    have hr2 : Room 2 _ := hr.mono (by decide)
    have hr6 : Room 6 _ := hr.mono (by decide)
    obtain ⟨t1, mT⟩ := U.mT
    refine ⟨_, pss_cons (ps_if (pt_not (pt_val (pe_callB call_isi (by rfl) J.isi (by decide +kernel) (pa_cons (pv 0) (pa_cons (pe_bltn (v := .ty "str") (by rfl) U.str (by decide +kernel) rfl) pa_nil)))))
          (pss_one (ps_raise rfl (takes_of rfl rfl rfl rfl) (pmk_newF B.T B.pf B.sup hr B.gC (pa_cons (pe_un un_neg pe_int) pa_nil) B.T.xt.sub B.tyC))) pss_nil)
      (pss_cons (ps_if (pt_cmpR op_eq (pv 0) pe_str (nomark _)) (pss_one (ps_ret (pe_make U.mkI U.FI hr (by rfl) U.cv.gC U.bI .nil (passes_call (takes_of rfl rfl rfl rfl) (E := E) (fun _ _ _ _ h => h)) (pa_cons (pe_tup pa_nil) pa_nil)))) pss_nil)
      (pss_cons (ps_set (i := 1) scReadC.nd rfl (.inl rfl) (pe_lst pa_nil))
      (pss_cons (ps_for (passes_of rfl) rfl (pi_enum (by rfl) J.enum (pa_cons (pe_call U.FP hr1 (by rfl) U.gP U.kP U.bP .nil pass0 (pa_cons (pv 0) pa_nil)) pa_nil)) (pg_tup rfl (pgs_cons (pg_name (i := 2) scReadC.nd rfl (.inl rfl)) (pgs_cons (pg_name (i := 3) scReadC.nd rfl (.inl rfl)) pgs_nil)))
        (pss_cons (ps_set (i := 4) scReadC.nd rfl (.inl rfl) (pe_call U.FS hr6 (by rfl) U.gS U.kS U.bS .nil pass0 (pa_cons (pv 3) (pa_cons (pe_cmpR op_eq (pv 2) pe_int (nomark _)) pa_nil))))
        (pss_cons (ps_if (PW.pt (pw_or (pt_cmpR op_isN (pv 4) pe_non (nomark _)) (pw_or1 (pt_cmpR op_eq (pv 2) (pe_glob (v := .int 8) (by rfl) mT ⟨_, rfl⟩) (nomark _)))))
          (pss_one (ps_raise rfl (takes_of rfl rfl rfl rfl) (pmk_newF B.T B.pf B.sup hr B.gC (pa_cons (pv 2) pa_nil) B.T.xt.sub B.tyC))) pss_nil)
        (pss_cut (ps_if (PW.pt (pw_and (pt_cmpR op_gt (pv 2) pe_int (nomark _)) (pw_and1 (pt_not (pt_val (pe_call U.FB hr2 (by rfl) U.gB U.kB U.bB .nil pass0 (pa_cons (pv 4) (pa_cons (pe_ix ix_list (pv 1) (pe_op op_sub (pv 2) pe_int) (fun _ _ => rfl)) pa_nil))))))))
          (pss_one (ps_raise rfl (takes_of rfl rfl rfl rfl) (pmk_newF B.T B.pf B.sup hr B.gC (pa_cons (pv 2) pa_nil) B.T.xt.sub B.tyC))) pss_nil)
        (pss_one (ps_expr (pe_bm PySem.F.plainAttrs_list PySem.F.slot_list_append PySem.F.type_list_append mt_append (pv 1) (pa_cons (pv 4) pa_nil))))))))
      (pss_one (ps_ret (pe_make U.mkI U.FI hr (by rfl) U.cv.gC U.bI .nil (passes_call (takes_of rfl rfl rfl rfl) (E := E) (fun _ _ _ _ h => h)) (pa_cons (pe_callTy call_tuple_of (by rfl) J.tup (by decide +kernel) (pa_cons (pv 1) pa_nil)) pa_nil))))))), ?_⟩
    have bad : ∀ (i : Int) (H1 : Hp), rdOf d = .inl i → Same H H1 → ∃ v, ([.int i] : List V) = [v] ∧ ∀ dd, H1 dd = none → E (.ref C) (some dd) (L2.upd H1 dd (.xd [(PySem.Str.ofString "index", v)])) := fun i H1 e sm =>
      ⟨.int i, rfl, fun dd hdd => q1 i e dd _ (sm.trans (same_upd hdd)) (sm.free hdd) upd_same⟩
    refine ⟨_, rfl, _, _, _, _, _, rfl, .ty "str", de_ty hd, kit_s d, _, rfl, ?_⟩
    cases hd with
    | non => exact iteT ⟨1, rfl, bad _ _ rfl fun _ _ h => h⟩
    | bl b => exact iteT ⟨1, rfl, bad _ _ rfl fun _ _ h => h⟩
    | int i => exact iteT ⟨1, rfl, bad _ _ rfl fun _ _ h => h⟩
    | tup _ _ => exact iteT ⟨1, rfl, bad _ _ rfl fun _ _ h => h⟩
    | lst _ _ _ => exact iteT ⟨1, rfl, bad _ _ rfl fun _ _ h => h⟩
    | dic _ _ => exact iteT ⟨1, rfl, bad _ _ rfl fun _ _ h => h⟩
    | str z =>
      refine iteF ?_
      have hz := hlen z rfl
      have e0 : rdOf (.str z) = match readF (tl z) with | .inl i => .inl (i : Nat) | .inr ts => .inr ts := rfl
      refine ⟨_, rfl, rfl, _, rfl, ?_⟩
      refine ite2 (fun c => ?_) (fun c => ?_)
      · have c : z = "0" := by simpa using c
        have er : readF (tl z) = .inr [] := by rw [c]; exact if_pos rfl
        refine ⟨Nat.zero_le _, fun t nt => fun x dx nx ndx _ => ⟨x, dx, .ref t, .tuple [], Tt, rfl, upd_same, .tup (TupAt.of ?_) .nil, fun _ H1 s1 => ⟨rfl, ?_⟩, fun i e => by cases e⟩⟩
        · have a1 : L2.upd H t (.tup []) t = some (.tup []) := upd_same
          rw [upd_ne (ne_of_none a1 nx), upd_ne (ne_of_none a1 ndx)]
          exact a1
        · have s9 := Nm.Same.ins (H2 := L2.upd H t (.tup [])) (o := .ins Cc dx [(PySem.Str.ofString "terms", .ref t)]) nx ndx s1
          refine q2 [] (by rw [e0, er]) x (.ref t) _ ((same_upd nt).trans s9) ((same_upd nt).free nx) ⟨dx, upd_same⟩ (.tup (TupAt.of (s9 _ _ upd_same)) .nil)
      · have c : ¬ z = "0" := by simpa using c
        have er : readF (tl z) = rdGo 0 [] (pcs 0 [] false (tl z)) := if_neg fun e => c (ext_tl e)
        obtain ⟨PP, ePP⟩ : ∃ PP, PP = pcs 0 [] false (tl z) := ⟨_, rfl⟩
        rw [← ePP] at er
        refine ⟨Nat.zero_le _, fun l nl => ?_⟩
        have s1 : Same H (L2.upd H l (.lst [])) := same_upd nl
        have hl1 : L2.upd H l (.lst []) l = some (.lst []) := upd_same
        generalize L2.upd H l (.lst []) = H1 at *
        refine ⟨_, rfl, z, rfl, hz, fun l2 ps H2 s2 nl2 hl2 ep lp hp => ?_⟩
        rw [← ePP] at ep
        have n2 : l2 ≠ l := (ne_of_none hl1 nl2).symm
        refine ⟨l2, _, rfl, SqL.of hl2, ?_⟩
        refine for_enum (K := K) (a := l2) (xs := ps.map V.str) (fun i σ G => ∃ (y2 y3 y4 : Option V) (as : List Addr) (made : List T4), σ = [some (.str z), some (.ref l), y2, y3, y4] ∧ Same H G ∧ G l = some (.lst (as.map V.ref)) ∧ G l2 = some (.lst (ps.map V.str)) ∧
            made.length = i ∧ i ≤ 8 ∧ DEs K (fun c => c ≠ l) G (as.map V.ref) (made.map tmD) ∧ rdGo 0 [] PP = rdGo i made (PP.drop i) ∧ (∀ t ∈ made, TR t) ∧ dueGo none 0 (made.map tmD) = none)
          ⟨none, none, none, [], [], rfl, s1.trans s2, s2 _ _ hl1, hl2, rfl, Nat.zero_le _, .nil, rfl, fun _ h => (nomatch h), rfl⟩ (fun i σ G _ h => by obtain ⟨_, _, _, _, _, _, _, _, h4, _⟩ := h; exact SqL.of h4) ?_ ?_
        · rintro i x Tt' σ G hx ⟨y2, y3, y4, as, made, rfl, sG, gl, gl2, lm, i8, des, eg, trs, du⟩ nT
          rw [List.getElem?_map] at hx
          obtain ⟨y, hy, rfl⟩ : ∃ y, ps[i]? = some y ∧ V.str y = x := by
            cases e : ps[i]? with
            | none => rw [e] at hx; cases hx
            | some y => rw [e] at hx; exact ⟨y, rfl, Option.some.inj hx⟩
          obtain ⟨p, hp1, hp2⟩ : ∃ p, PP[i]? = some p ∧ tl y = mkP p := by
            have z1 : (ps.map tl)[i]? = some (tl y) := by rw [List.getElem?_map, hy]; rfl
            rw [ep, List.getElem?_map] at z1
            cases e : PP[i]? with
            | none => rw [e] at z1; cases z1
            | some p => rw [e] at z1; exact ⟨p, rfl, (Option.some.inj z1).symm⟩
          have hi := (List.getElem?_eq_some_iff.mp hp1).1
          have edrop : PP.drop i = p :: PP.drop (i + 1) := by
            rw [List.drop_eq_getElem_cons hi]
            congr 1
            exact (List.getElem?_eq_some_iff.mp hp1).2
          have hyl := hp y (List.mem_of_getElem? hy)
          have s3 : Same G (L2.upd G Tt' (.tup [.int (i : Nat), .str y])) := same_upd nT
          have hT : L2.upd G Tt' (.tup [.int (i : Nat), .str y]) Tt' = some (.tup [.int (i : Nat), .str y]) := upd_same
          generalize L2.upd G Tt' (.tup [.int (i : Nat), .str y]) = G1 at *
          refine ⟨Tt', _, rfl, SqT.of hT, rfl, _, _, rfl, _, _, rfl, rfl, ?_⟩
          refine ⟨_, rfl, _, rfl, rfl, y, i, p, by rw [dec0]; rfl, hp2, hyl, ?_⟩
          have step : rdGo i made (PP.drop i) = match one4 i p with | none => .inl i | some t => if i = 8 ∨ ¬ ok4 made t then .inl i else rdGo (i + 1) (made ++ [t]) (PP.drop (i + 1)) := by rw [edrop]; rfl
          rw [step] at eg
          cases e4 : one4 i p with
          | none =>
            rw [e4] at eg
            intro G2 s4
            refine ⟨_, rfl, rfl, _, rfl, iteT ⟨_, rfl, bad _ _ ?_ (sG.trans (s3.trans s4))⟩⟩
            rw [e0, er, eg]
          | some t =>
            rw [e4] at eg
            intro a G2 s4 na ta
            have s04 := sG.trans (s3.trans s4)
            refine ⟨_, rfl, rfl, _, rfl, iteF ?_⟩
            refine ⟨_, rfl, rfl, _, rfl, ?_⟩
            refine ite2 (fun c8 => ?_) (fun c8 => ?_)
            · have c8 : i = 8 := by
                have : (i : Int) = 8 := by simpa using c8
                omega
              refine ⟨_, rfl, bad _ _ ?_ s04⟩
              rw [e0, er, eg]
              dsimp only
              rw [if_pos (.inl c8)]
            have c8 : ¬ i = 8 := fun z8 => c8 (decide_eq_true (by rw [z8]; rfl))
            have gl2' := (s3.trans s4) _ _ gl2
            have gl' := (s3.trans s4) _ _ gl
            have des' := DEs.same (s3.trans s4) des
            have tr := one_tr e4
            refine ⟨fun σ G3 => σ = [some (.str z), some (.ref l), some (.int (i : Nat)), some (.str y), some (.ref a)] ∧ G3 = G2 ∧ ok4 made t, ?_, ?_⟩
            · refine ⟨_, rfl, (i : Nat), 0, rfl, rfl, _, rfl, ?_⟩
              refine ite2 (fun c0 => ?_) (fun c0 => ?_)
              · have c0 : (0 : Int) < (i : Nat) := of_decide_eq_true c0
                obtain ⟨j, rfl⟩ : ∃ j, i = j + 1 := ⟨i - 1, by omega⟩
                have hj : j < made.length := by omega
                have hlen2 : (as.map V.ref).length = (made.map tmD).length := des.len
                have hja : j < (as.map V.ref).length := by rw [hlen2, List.length_map]; exact hj
                have hxj : (as.map V.ref)[j]? = some (as.map V.ref)[j] := List.getElem?_eq_getElem hja
                obtain ⟨dj, hdj, rj⟩ := des'.at hxj
                have edj : dj = tmD made[j] := by
                  rw [List.getElem?_map, List.getElem?_eq_getElem hj] at hdj
                  exact (Option.some.inj hdj).symm
                subst edj
                have el : made.getLast? = some made[j] := by
                  rw [List.getLast?_eq_getElem?, lm]
                  exact List.getElem?_eq_getElem hj
                obtain ⟨xj, exj⟩ : ∃ xj, xj = (as.map V.ref)[j] := ⟨_, rfl⟩
                rw [← exj] at hxj rj
                refine ⟨_, rfl, _, rfl, _, rfl, ((j + 1 : Nat) : Int), 1, rfl, rfl, l, as.map V.ref, ((j + 1 : Nat) : Int) - 1, xj, rfl, rfl, SqL.of gl', ?_, ?_⟩
                · have e : ((j + 1 : Nat) : Int) - 1 = (j : Nat) := by omega
                  rw [e]
                  exact atI_nat hxj
                refine ⟨.ref a, _, tmD t, tmD made[j], fun c => c ≠ l, t, made[j], rfl, Nm.TmQ.off gl' ta, rj, tmOf_tmD (tr_ok tr), tmOf_tmD (tr_ok (trs _ (List.getElem_mem hj))), fun b hb => ⟨b, rfl, ?_⟩⟩
                cases b with
                | true =>
                  refine iteF ⟨rfl, rfl, fun m hm => ?_⟩
                  rw [el] at hm
                  obtain rfl := Option.some.inj hm
                  exact hb.mp rfl
                | false =>
                  refine iteT ⟨_, rfl, bad _ _ ?_ s04⟩
                  rw [e0, er, eg]
                  dsimp only
                  rw [if_pos (.inr fun ok => by
                    have := hb.mpr (ok _ el)
                    cases this)]
              · have c0 : ¬ (0 : Int) < (i : Nat) := fun y => c0 (decide_eq_true y)
                have i0 : made = [] := List.length_eq_zero_iff.mp (by omega)
                exact ⟨rfl, rfl, fun m hm => by rw [i0] at hm; cases hm⟩
            rintro σ G3 ⟨rfl, rfl, ok⟩
            dsimp only at eg
            rw [if_neg (by rintro (y8 | y8); exact c8 y8; exact y8 ok)] at eg
            refine ⟨.ref l, rfl, .inl ⟨rfl, _, SqL.of gl'⟩, _, rfl, l, _, _, rfl, rfl, gl', ?_, ?_⟩
            · have hlen2 : (as.map V.ref).length = (made.map tmD).length := des.len
              rw [hlen2, List.length_map]
              exact Nat.lt_of_le_of_lt (show made.length ≤ 8 by omega) (by decide)
            refine ⟨_, _, _, as ++ [a], made ++ [t], rfl, fun c o hc => ?_, ?_, ?_, ?_, by omega, ?_, eg, ?_, ?_⟩
            · rw [upd_ne (ne_of_none hc nl)]
              exact s04 _ _ hc
            · rw [upd_same, List.map_append]
              rfl
            · rw [upd_ne n2]
              exact gl2'
            · rw [List.length_append, lm]
              rfl
            · rw [List.map_append, List.map_append]
              exact DEs.snoc (Nm.DEs.upd des') (DE.keep (fun c o sc _ e => ⟨sc, by rw [upd_ne sc]; exact e⟩) (Nm.TmQ.off gl' ta))
            · intro u hu
              rcases List.mem_append.mp hu with hu | hu
              · exact trs u hu
              · rw [List.mem_singleton.mp hu]
                exact tr
            · refine go_snoc made none 0 t du (fun u hu => tr_ok (trs u hu)) (tr_ok tr) fun m hm => ok m ?_
              cases eL : made.getLast? with
              | none => rw [eL] at hm; cases hm
              | some x => rw [eL] at hm; exact hm
        · rintro σ G ⟨y2, y3, y4, as, made, rfl, sG, gl, gl2, lm, i8, des, eg, trs, du⟩
          rw [List.length_map] at lm i8
          have lP : ps.length = PP.length := by
            have := congrArg List.length ep
            rw [List.length_map, List.length_map] at this
            exact this
          rw [List.drop_eq_nil_of_le (show PP.length ≤ (ps.map V.str).length by rw [List.length_map]; omega)] at eg
          have eg : rdGo 0 [] PP = .inr made := eg
          have due : dueOf (cvD made) = none := by
            show (if 8 < (made.map tmD).length then some (-1) else (dueGo none 0 (made.map tmD)).map fun i : Nat => (i : Int)) = none
            rw [if_neg (show ¬ 8 < (made.map tmD).length by rw [List.length_map]; omega), du]
            rfl
          refine ⟨_, rfl, l, _, rfl, .inl ⟨SqL.of gl, fun t nt => ?_⟩⟩
          have s3 : Same G (L2.upd G t (.tup (as.map V.ref))) := same_upd nt
          have ht : L2.upd G t (.tup (as.map V.ref)) t = some (.tup (as.map V.ref)) := upd_same
          generalize L2.upd G t (.tup (as.map V.ref)) = G1 at *
          have cvd : DE K Tt G1 (.ref t) (cvD made) := .tup (TupAt.of ht) (DEs.keep (fun a o _ _ e => ⟨True.intro, s3 _ _ e⟩) des)
          refine fun x dx nx ndx _ => ⟨x, dx, .ref t, cvD made, Tt, rfl, upd_same, DE.keep (fun c o _ _ h => ⟨True.intro, by rw [upd_ne (ne_of_none h nx), upd_ne (ne_of_none h ndx)]; exact h⟩) cvd, fun _ H1' s1' => ⟨rfl, ?_⟩, fun i e => by rw [due] at e; cases e⟩
          have s9 := Nm.Same.ins (H2 := G1) (o := .ins Cc dx [(PySem.Str.ofString "terms", .ref t)]) nx ndx s1'
          exact q2 made (by rw [e0, er, eg]) x (.ref t) _ (sG.trans (s3.trans s9)) ((sG.trans s3).free nx) ⟨dx, upd_same⟩ (DE.same s9 cvd)
end
end Nm

/-! Right terms are plain data. -/
namespace Nm
open PySem PySem.Spec PyProof.Rows L2 LamX
section
variable {S : Addr → Prop} {H : Hp} {K : PySem.W.Frag}
theorem de_tm {x : V} {t : Tm} (h : DE K S H x (tmD t)) : Dp K H x (tmD t) := by
  cases h with
  | tup h1 r1 =>
  cases r1 with
  | cons a r1 =>
  cases r1 with
  | cons b r1 =>
  cases r1 with
  | cons c r1 =>
  cases r1
  cases b
  cases a with
  | tup h2 r2 =>
  cases r2 with
  | cons a1 r2 =>
  cases r2 with
  | cons a2 r2 =>
  cases r2
  cases a1
  cases a2
  cases c with
  | tup h3 r3 =>
  cases r3 with
  | cons c1 r3 =>
  cases r3 with
  | cons c2 r3 =>
  cases r3
  cases c1
  cases c2
  exact .tup (h1.sq) (.cons (dp_pair h2.sq) (.cons (.int _) (.cons (dp_pair h3.sq) .nil)))
theorem tmA_of {x : V} {t : Tm} (h : DE K S H x (tmD t)) : ∃ a ca qa, x = .ref a ∧ TmA K H a ca qa t := by
  cases h with
  | tup h1 r1 =>
  cases r1 with
  | cons a r1 =>
  cases r1 with
  | cons b r1 =>
  cases r1 with
  | cons c r1 =>
  cases r1
  cases b
  cases a with
  | tup h2 r2 =>
  cases r2 with
  | cons a1 r2 =>
  cases r2 with
  | cons a2 r2 =>
  cases r2
  cases a1
  cases a2
  cases c with
  | tup h3 r3 =>
  cases r3 with
  | cons c1 r3 =>
  cases r3 with
  | cons c2 r3 =>
  cases r3
  cases c1
  cases c2
  exact ⟨_, _, _, rfl, h1.sq, h2.sq, h3.sq⟩
theorem des_at {xs : List V} {ts : List Tm} {j : Nat} {t : Tm} (h : DEs K S H xs (ts.map tmD)) (e : ts[j]? = some t) : ∃ a ca qa, xs[j]? = some (.ref a) ∧ TmA K H a ca qa t := by
  have hl := h.len
  rw [List.length_map] at hl
  have hj := (List.getElem?_eq_some_iff.mp e).1
  have hx : xs[j]? = some (xs[j]'(by omega)) := List.getElem?_eq_getElem (by omega)
  obtain ⟨d, hd, r⟩ := h.at hx
  rw [List.getElem?_map, e] at hd
  obtain rfl := (Option.some.inj hd).symm
  obtain ⟨a, ca, qa, ea, ta⟩ := tmA_of r
  exact ⟨a, ca, qa, by rw [hx, ea], ta⟩
theorem des_tm : ∀ {xs : List V} {ts : List Tm}, DEs K S H xs (ts.map tmD) → DpAll K H xs (ts.map tmD)
  | _, [], .nil => .nil
  | _, _ :: _, .cons x r => .cons (de_tm x) (des_tm r)
theorem de_cv {x : V} {ts : List Tm} (h : DE K S H x (cvD ts)) : Dp K H x (cvD ts) := by
  cases h with
  | tup h1 r1 => exact .tup (h1.sq) (des_tm r1)
end
theorem lay_tms : ∀ ts : List Tm, PyData.canLayAll0 (ts.map tmD) = true
  | [] => rfl
  | t :: ts => by
    show (PyData.canLay0 (tmD t) && PyData.canLayAll0 (ts.map tmD)) = true
    rw [lay_tms ts]
    rfl
theorem dep_tms : ∀ ts : List Tm, PyData.depthAll (ts.map tmD) ≤ 2
  | [] => Nat.zero_le _
  | t :: ts => by
    show max (PyData.depth (tmD t)) (PyData.depthAll (ts.map tmD)) ≤ 2
    have e : PyData.depth (tmD t) = 2 := rfl
    have := dep_tms ts
    omega
theorem small_tms : ∀ ts : List Tm, smallDs (ts.map tmD) = true
  | [] => rfl
  | t :: ts => by
    show (smallD (tmD t) && smallDs (ts.map tmD)) = true
    rw [small_tms ts]
    rfl
theorem dep_cv (ts : List Tm) : (cvD ts).depth ≤ 3 := by
  show PyData.depthAll (ts.map tmD) + 1 ≤ 3
  have := dep_tms ts
  omega
theorem sh_cv (ts : List Tm) : SeqAt.shaped (cvD ts) = true := by
  unfold SeqAt.shaped
  have e : PyData.canLay0 (cvD ts) = true := lay_tms ts
  rw [e, Bool.true_and]
  exact decide_eq_true (Nat.le_trans (dep_cv ts) (by decide))
theorem small_cv {ts : List Tm} (h : ts.length ≤ 8) : smallD (cvD ts) = true := by
  show (decide ((ts.map tmD).length ≤ 100000) && smallDs (ts.map tmD)) = true
  rw [small_tms, Bool.and_true, List.length_map]
  exact decide_eq_true (by omega)
def toldD (ts : List Tm) : PyData := .tuple [.str "told", cvD ts]
theorem sh_told (ts : List Tm) : SeqAt.shaped (toldD ts) = true := by
  unfold SeqAt.shaped
  have e2 : PyData.canLay0 (cvD ts) = true := lay_tms ts
  have e : PyData.canLay0 (toldD ts) = true := by
    show (PyData.canLay0 (.str "told") && (PyData.canLay0 (cvD ts) && true)) = true
    rw [e2]
    decide +kernel
  rw [e, Bool.true_and]
  refine decide_eq_true (?_ : PyData.depth (toldD ts) ≤ 64)
  show max 0 (max (cvD ts).depth 0) + 1 ≤ 64
  have := dep_cv ts
  omega
theorem small_told {ts : List Tm} (h : ts.length ≤ 8) : smallD (toldD ts) = true := by
  show (decide (2 ≤ 100000) && (true && (smallD (cvD ts) && true))) = true
  rw [small_cv h]
  rfl
theorem dep_told (ts : List Tm) : (toldD ts).depth < 6 := by
  show max 0 (max (cvD ts).depth 0) + 1 < 6
  have := dep_cv ts
  omega
end Nm

/-! Rules: a list != [], a comprehension over a text, a written list whose later items want a token. -/
namespace Nm
open PySem PySem.Spec PyProof.Rows L2
section
variable {X : Cx}
/-- a list != an empty one -/
theorem op_neNil (hu : X.A.units + 64 < cLine) : OpR X (compareOp .NotEq) (fun x y H Q => ∃ a b xs, x = .ref a ∧ y = .ref b ∧ SqL X.K H a xs ∧ SqL X.K H b [] ∧ Q (.bl (!xs.isEmpty)) H) := by
  intro pins s σ H x y v u Q I rx ry h
  obtain ⟨a, b, xs, rfl, rfl, ha, hb, q⟩ := h
  cases rx
  cases ry
  obtain ⟨its, r1, p1, _⟩ := I.list ha
  obtain ⟨its2, r2, p2, _⟩ := I.list hb
  have e2 : its2 = [] := by
    cases r2
    rfl
  subst e2
  have hu' : X.A.units < cLine := by omega
  cases xs with
  | nil =>
    have e1 : its = [] := by
      cases r1
      rfl
    subst e1
    exact SeqAt.RcNeAt.lists (e := fun _ => true) p1.isList p2.isList rfl hu' (fun j h1 _ => absurd h1 (by simp)) X.prog X.w _ _ ⟨.bl _, H, I, rfl, q⟩
  | cons z zs =>
    have hl := r1.length
    refine SeqAt.RcNeAt.lists_lengths p1.isList p2.isList ?_ hu' X.prog X.w _ _ ⟨.bl _, H, I, rfl, q⟩
    rw [List.length_cons] at hl
    simp
    intro e
    rw [e] at hl
    simp at hl
end
theorem lc_str {x : Str} {g : TG} {tt : TT} {te : TE} {vs : List Nat} {σ : L2.St} {H1 : Hp} {D : Addr} {Qd : Hp → Prop} (Pv : Nat → Hp → Prop) (h0 : Pv 0 (L2.upd H1 D (.lst [])))
    (hs : ∀ i c H, x.cps[i]? = some c → Pv i H → g (.str ⟨#[c]⟩) (wipe σ vs) H fun σ2 H2 => wipe σ2 vs = wipe σ vs ∧ tt σ2 H2 fun b H3 =>
      if b = true then te σ2 H3 fun y H4 => ∃ acc, H4 D = some (.lst acc) ∧ acc.length < sizeLine ∧ Pv (i + 1) (L2.upd H4 D (.lst (acc ++ [y]))) else Pv (i + 1) H3) (hd : ∀ H, Pv x.cps.size H → Qd H) :
    ∃ W : Nat → Nat → Hp → Prop, (∃ m, W 0 m (L2.upd H1 D (.lst []))) ∧ ∀ i m H, W i m H →
      ((Its x).stop i H ∧ Qd H) ∨ ((Its x).go i H ∧ ∃ Nx : Hp → Prop, (∀ H', Nx H' → ∃ m', m' < m ∧ W (i + 1) m' H') ∧ ∀ v H', (Its x).yld i H v H' → g v (wipe σ vs) H' fun σ2 H2 => wipe σ2 vs = wipe σ vs ∧ tt σ2 H2 fun b H3 =>
        if b = true then te σ2 H3 fun y H4 => ∃ acc, H4 D = some (.lst acc) ∧ acc.length < sizeLine ∧ Nx (L2.upd H4 D (.lst (acc ++ [y]))) else Nx H3) := by
  refine ⟨fun i m H => m = x.cps.size - i ∧ i ≤ x.cps.size ∧ Pv i H, ⟨x.cps.size, by simp, Nat.zero_le _, h0⟩, ?_⟩
  rintro i m H ⟨rfl, hi, p⟩
  by_cases hlt : i < x.cps.size
  · refine .inr ⟨hlt, Pv (i + 1), fun H' p' => ⟨x.cps.size - (i + 1), by omega, rfl, hlt, p'⟩, fun v H' y => ?_⟩
    obtain ⟨e, c, hc, rfl⟩ := y
    subst e
    exact hs i c _ hc p
  · have e : i = x.cps.size := by omega
    subst e
    exact .inl ⟨Nat.le_refl _, hd H p⟩
/-! ### a token is out behind it -/
def PEG (X : Cx) (e : Expr) (t : TE) : Prop :=
  ∀ (pins : List (Addr × Obj)) (s : Shared) (σ : L2.St) (H : Hp) (Q : VK), Inv X pins σ H s → t σ H Q → wpAny (model X.prog X.w) X.A (eval e X.env) (fun v s1 => 1 ≤ s1.toks ∧ EP X pins σ Q v s1) X.xe s
section
variable {X : Cx} {e f : Expr} {es : List Expr} {te tf : TE} {ta : TA} {pos : Pos}
theorem peg_str {y : Str} {j : Nat} {c0 : Pos} : PEG X (.Constant (.str y) j c0) (tC (.str y)) := by
  intro pins s σ H Q I h
  exact Calls.Constant_str ⟨by show 1 ≤ s.toks + 1; omega, .str y, H, I.tok _, ⟨s.toks, rfl⟩, h⟩
theorem peg_opR {op : Operator} {r : R2} (ho : OpR X (binaryOp op) r) (ha : PE X e te) (hb : PEG X f tf) : PEG X (.BinOp e op f pos) (tOp r te tf) := by
  intro pins s σ H Q I h
  refine wpAny_BinOp (thn (ha.run pins s σ H _ I h) fun v s1 ⟨x, H1, I1, r1, q1⟩ => thn (hb pins s1 σ H1 _ I1 q1) fun u s2 ⟨hk, y, H2, I2, r2, q2⟩ => ?_)
  refine wpAny_mono (PySem.wpAny_toks (ho pins s2 σ H2 x y v u Q I2 r1 r2 q2)) (fun w s3 ⟨k3, q3⟩ => ⟨Nat.le_trans hk k3, q3⟩) fun _ _ z => z.2
theorem peg_opL {op : Operator} {r : R2} (ho : OpR X (binaryOp op) r) (ha : PEG X e te) (hb : PE X f tf) : PEG X (.BinOp e op f pos) (tOp r te tf) := by
  intro pins s σ H Q I h
  refine wpAny_BinOp (thn (ha pins s σ H _ I h) fun v s1 ⟨hk, x, H1, I1, r1, q1⟩ => ?_)
  refine wpAny_mono (PySem.wpAny_toks (hb.run pins s1 σ H1 _ I1 q1)) (fun u s2 ⟨k2, y, H2, I2, r2, q2⟩ => ?_) fun _ _ z => z.2
  refine wpAny_mono (PySem.wpAny_toks (ho pins s2 σ H2 x y v u Q I2 r1 r2 q2)) (fun w s3 ⟨k3, q3⟩ => ⟨Nat.le_trans hk (Nat.le_trans k2 k3), q3⟩) fun _ _ z => z.2
theorem pa_consG (ha : PEG X e te) (hr : PAT X es ta) (hs : starEach (e :: es) X.env = (false, eval e X.env) :: starEach es X.env := by rfl) : PA X (e :: es) (tCons te ta) := by
  refine ⟨fun pos pins s σ H Q I h => ?_⟩
  rw [hs]
  show wpAny _ _ (spliced ((false, eval e X.env) :: backTo pos (starEach es X.env))) _ _ s
  refine Calls.spliced_cons (thn (ha pins s σ H _ I h) fun v s1 ⟨hk, x, H1, I1, r1, q1⟩ => ?_)
  exact thn (hr pos pins s1 σ H1 _ hk I1 q1) fun us s2 ⟨xs, H2, I2, r2, q2⟩ => ⟨x :: xs, H2, I2, .cons r1 r2, q2⟩
end
end Nm

/-! The law's _law_size_text, _law_term_text, _law_text. -/
namespace Nm
open PySem PySem.Spec PyProof.Rows L2 LamX TL
abbrev sSizeT : Stmt := topS 54
abbrev sTermT : Stmt := topS 55
abbrev sText : Stmt := topS 56
section
variable {P : Program} {w : World} {K : PySem.W.Frag} {mg : Str → Option Value} {base : Heap}
/-! ### _law_size_text -/
def spLSize (K : PySem.W.Frag) : Sp := fun vs H Q _ => ∃ (a : Addr) (t u : Int), vs = [.ref a] ∧ SqT K H a [.int t, .int u] ∧ t.natAbs < 10 ^ 60 ∧ 0 < u ∧ u < 10 ^ 60 ∧ ∀ z : Str, tl z = sizeL (t, u) → Q (.str z) H
theorem scLSize : FnScope ["_law_c_here", "_law_size"] ["_law_c_here"] (defScope sSizeT) := ⟨rfl, rfl, rfl, by decide +kernel, rfl, by decide +kernel, by decide +kernel⟩
theorem ok_lsize {f : Addr} {fd : FuncData} {k : Nat} (F : Fun K "_law_size_text" "_law_size_text" sSizeT f fd) (T : FigT mg) : FnOk P w K mg base CX0 (k + 1) f fd ["_law_c_here"] (spLSize K) := by
  refine F.ok scLSize (fun vs H Q E h => ?_) (fun cdv A outer s H vs Q E hr h => ?_)
  · obtain ⟨a, t, u, rfl, _⟩ := h
    rfl
  · obtain ⟨a, t, u, rfl, ha, t1, u0, u1, q⟩ := h
    refine ⟨_, pss_cons (ps_set (i := 1) scLSize.nd rfl (.inl rfl) (pe_callTy call_str_int (by rfl) T.str (by decide +kernel) (pa_cons (pe_callB call_abs (by rfl) T.abs (by decide +kernel) (pa_cons (pe_ix ix_tup (pv 0) pe_int (fun _ _ => rfl)) pa_nil)) pa_nil)))
      (pss_one (ps_ret (pe_ifExp (pt_cmpR op_eq (pe_ix ix_tup (pv 0) pe_int (fun _ _ => rfl)) pe_int (nomark _)) (pv 1) (pe_op op_add_str (pe_op op_add_str (pv 1) pe_str) (pe_callTy call_str_int (by rfl) T.str (by decide +kernel) (pa_cons (pe_ix ix_tup (pv 0) pe_int (fun _ _ => rfl)) pa_nil)))))), ?_⟩
    refine ⟨_, rfl, a, _, 0, .int t, rfl, rfl, ha, rfl, t, rfl, t.natAbs, by rw [abs_nat], nlog t1, ?_⟩
    obtain ⟨z, ez, e1⟩ : ∃ z : Str, tl z = numL t.natAbs ∧ z = Str.ofString (toString ((t.natAbs : Nat) : Int)) := ⟨_, tl_num _, rfl⟩
    have lz : z.length ≤ 60 := by rw [len_s, ez]; exact numL_60 t1
    rw [← e1]
    refine ⟨_, rfl, a, _, 1, .int u, rfl, rfl, ha, rfl, rfl, _, rfl, ?_⟩
    refine ite2 (fun c => ?_) (fun c => ?_)
    · have c : u = 1 := by simpa using c
      refine ⟨_, rfl, q z ?_⟩
      rw [ez]
      unfold sizeL
      rw [if_pos c]
    · have c : ¬ u = 1 := by simpa using c
      refine ⟨_, rfl, _, _, rfl, rfl, ?_, ?_⟩
      · exact Nat.le_trans (show z.length + _ ≤ 60 + 1 from Nat.add_le_add lz (by decide)) (by decide)
      have u2 : u.natAbs < 10 ^ 60 := by omega
      refine ⟨_, rfl, a, _, 1, .int u, rfl, rfl, ha, rfl, u.natAbs, by rw [show ((u.natAbs : Nat) : Int) = u from by omega], nlog u2, ?_⟩
      obtain ⟨z2, ez2, e2⟩ : ∃ z : Str, tl z = numL u.natAbs ∧ z = Str.ofString (toString ((u.natAbs : Nat) : Int)) := ⟨_, tl_num _, rfl⟩
      have lz2 : z2.length ≤ 60 := by rw [len_s, ez2]; exact numL_60 u2
      rw [← e2]
      refine ⟨_, _, rfl, rfl, ?_, q _ ?_⟩
      · rw [Str.length_append]
        exact Nat.le_trans (show z.length + _ + z2.length ≤ 60 + 1 + 60 from Nat.add_le_add (Nat.add_le_add lz (by decide)) lz2) (by decide)
      · rw [tl_append, tl_append, ez, ez2]
        unfold sizeL
        rw [if_neg c, List.append_assoc]
        rfl
/-! ### _law_term_text -/
def spLTerm (K : PySem.W.Frag) : Sp := fun vs H Q _ => ∃ (a ca qa : Addr) (t : Tm), vs = [.ref a] ∧ TmA K H a ca qa t ∧ TmOk t ∧ ∀ (z : Str) H', Same H H' → tl z = tmL t → z.length ≤ 400 → Q (.str z) H'
structure LtmT (P : Program) (w : World) (K : PySem.W.Frag) (mg : Str → Option Value) (base : Heap) where
  fS : Addr
  fdS : FuncData
  FS : FnOk P w K mg base CX0 1 fS fdS ["_law_c_here"] (spLSize K)
  bS : Binds K fdS ["_law_c_here"] []
  gS : mg "_law_size_text" = some (.ref fS)
  kS : PySem.W.keepIn K (.ref fS) = true
theorem scLTerm : FnScope ["_law_term", "_law_c_here", "_law_k", "_law_q_here", "_law_behind"] ["_law_term"] (defScope sTermT) := ⟨rfl, rfl, rfl, by decide +kernel, rfl, by decide +kernel, by decide +kernel⟩
theorem ok_lterm {f : Addr} {fd : FuncData} (F : Fun K "_law_term_text" "_law_term_text" sTermT f fd) (T : FigT mg) (U : LtmT P w K mg base) : FnOk P w K mg base CX0 2 f fd ["_law_term"] (spLTerm K) := by
  refine F.ok scLTerm (fun vs H Q E h => ?_) (fun cdv A outer s H vs Q E hr h => ?_)
  · obtain ⟨a, ca, qa, t, rfl, _⟩ := h
    rfl
  · obtain ⟨a, ca, qa, t, rfl, ta, ok, q⟩ := h
    obtain ⟨c, k, qq⟩ := t
    obtain ⟨⟨c1, c2, c3, c4, c5⟩, rq, k1, k2⟩ := ok
    have c1 : c.1 ≠ 0 := c1
    have c2 : 0 < c.2 := c2
    have c4 : c.1.natAbs < 10 ^ 30 := c4
    have c5 : c.2 < 10 ^ 30 := c5
    have k0 : 0 ≤ k ∧ k ≤ 3 := ⟨k1, k2⟩
    have rq : RQ qq.1 qq.2 := rq
    have t1 : c.1.natAbs < 10 ^ 60 := by omega
    have u1 : c.2 < 10 ^ 60 := by omega
    refine ⟨_, pss_cons (ps_asg (pv 0) (pg_tup (by rfl) (pgs_cons (pg_name (i := 1) scLTerm.nd rfl (.inl rfl)) (pgs_cons (pg_name (i := 2) scLTerm.nd rfl (.inl rfl)) (pgs_cons (pg_name (i := 3) scLTerm.nd rfl (.inl rfl)) pgs_nil)))))
      (pss_cons (ps_set (i := 4) scLTerm.nd rfl (.inl rfl) (pe_lst pa_nil))
      (pss_cut (ps_if (pt_cmpR op_gt (pv 2) pe_int (nomark _)) (pss_one (ps_expr (pe_bm PySem.F.plainAttrs_list PySem.F.slot_list_append PySem.F.type_list_append mt_append (pv 4)
          (pa_cons (pe_ifExp (pt_cmpR op_eq (pv 2) pe_int (nomark _)) pe_str (pe_op op_add_str pe_str (pe_callTy call_str_int (by rfl) T.str (by decide +kernel) (pa_cons (pv 2) pa_nil)))) pa_nil)))) pss_nil)
      (pss_cut (ps_if (pt_cmpR op_ne (pe_ix ix_tup (pv 3) pe_int (fun _ _ => rfl)) pe_int (nomark _)) (pss_one (ps_expr (pe_bm PySem.F.plainAttrs_list PySem.F.slot_list_append PySem.F.type_list_append mt_append (pv 4)
          (pa_cons (pe_op op_add_str (pe_op op_add_str (pe_op op_add_str pe_str (pe_ifExp (pt_cmpR op_lt (pe_ix ix_tup (pv 3) pe_int (fun _ _ => rfl)) pe_int (nomark _)) pe_str pe_str)) (pe_call U.FS hr (by rfl) U.gS U.kS U.bS .nil pass0 (pa_cons (pv 3) pa_nil))) pe_str) pa_nil)))) pss_nil)
      (pss_cut (ps_if (PW.pt (pw_and (pt_cmpR op_eq (pe_callB call_abs (by rfl) T.abs (by decide +kernel) (pa_cons (pe_ix ix_tup (pv 1) pe_int (fun _ _ => rfl)) pa_nil)) pe_int (nomark _))
          (pw_and (pt_cmpR op_eq (pe_ix ix_tup (pv 1) pe_int (fun _ _ => rfl)) pe_int (nomark _)) (pw_and1 (pt_cmpR (op_neNil hr.units) (pv 4) (pe_lst pa_nil) (nomark _))))))
        (pss_one (ps_ret (pe_join pe_str (pv 4)))) pss_nil)
      (pss_one (ps_ret (pe_join pe_str (pe_op op_cat (pe_lst (pa_cons (pe_call U.FS hr (by rfl) U.gS U.kS U.bS .nil pass0 (pa_cons (pv 1) pa_nil)) pa_nil)) (pv 4))))))))), ?_⟩
    refine ⟨_, rfl, a, _, rfl, ta.t0, rfl, _, _, rfl, _, _, rfl, _, _, rfl, rfl, ?_⟩
    refine ⟨Nat.zero_le _, fun l nl => ?_⟩
    refine ⟨fun σ G => ∃ ws : List Str, σ = [some (.ref a), some (.ref ca), some (.int k), some (.ref qa), some (.ref l)] ∧ Same H G ∧ G l = some (.lst (ws.map V.str)) ∧ ws.map tl = powL k, ?_, ?_⟩
    · refine ⟨_, rfl, k, 0, rfl, rfl, _, rfl, ?_⟩
      have fin : ∀ z : Str, powL k = [tl z] → ∃ ws : List Str, ([some (V.ref a), some (.ref ca), some (.int k), some (.ref qa), some (.ref l)] : L2.St) = [some (.ref a), some (.ref ca), some (.int k), some (.ref qa), some (.ref l)] ∧
          Same H (L2.upd (L2.upd H l (.lst [])) l (.lst ([] ++ [V.str z]))) ∧ L2.upd (L2.upd H l (.lst [])) l (.lst ([] ++ [V.str z])) l = some (.lst (ws.map V.str)) ∧ ws.map tl = powL k := fun z ez =>
        ⟨[z], rfl, fun o ob h => by rw [upd_upd, upd_ne (ne_of_none h nl)]; exact h, upd_same, ez.symm⟩
      refine ite2 (fun c0 => ?_) (fun c0 => ?_)
      · have c0 : 0 < k := of_decide_eq_true c0
        refine ⟨.ref l, rfl, .inl ⟨rfl, _, SqL.of upd_same⟩, ?_⟩
        refine ⟨_, rfl, rfl, _, rfl, ?_⟩
        refine ite2 (fun c1 => ?_) (fun c1 => ?_)
        · have c1 : k = 1 := by simpa using c1
          exact ⟨l, _, _, rfl, rfl, upd_same, by decide, fin "t" (by rw [c1]; rfl)⟩
        · have c1 : ¬ k = 1 := by simpa using c1
          have hk3 : k.natAbs < 10 ^ 60 := Nat.lt_of_le_of_lt (show k.natAbs ≤ 3 by omega) (by decide)
          refine ⟨_, rfl, k.natAbs, by rw [show ((k.natAbs : Nat) : Int) = k from by omega], nlog hk3, ?_⟩
          obtain ⟨z, ez, e1⟩ : ∃ z : Str, tl z = numL k.natAbs ∧ z = Str.ofString (toString ((k.natAbs : Nat) : Int)) := ⟨_, tl_num _, rfl⟩
          have lz : z.length ≤ 60 := by rw [len_s, ez]; exact numL_60 hk3
          rw [← e1]
          refine ⟨_, _, rfl, rfl, Nat.le_trans (show _ + z.length ≤ 2 + 60 from Nat.add_le_add (by decide) lz) (by decide), l, _, _, rfl, rfl, upd_same, by decide, fin _ ?_⟩
          rw [tl_append, ez]
          unfold powL
          rw [if_neg c1, if_pos (by omega)]
          rfl
      · have c0 : ¬ 0 < k := fun y => c0 (decide_eq_true y)
        refine ⟨[], rfl, same_upd nl, upd_same, ?_⟩
        have : k = 0 := by omega
        subst this
        rfl
    rintro σ G ⟨ws, rfl, sG, hl, ew⟩
    refine ⟨fun σ G => ∃ ws : List Str, σ = [some (.ref a), some (.ref ca), some (.int k), some (.ref qa), some (.ref l)] ∧ Same H G ∧ G l = some (.lst (ws.map V.str)) ∧ ws.map tl = behL k qq, ?_, ?_⟩
    · have tG := ta.same sG
      have lw : ws.length ≤ 1 := by
        rw [cnt_len ew]
        rcases pow_cases k0 with e | e | e | e <;> rw [e] <;> decide
      refine ⟨_, rfl, qa, _, 0, .int qq.1, rfl, rfl, tG.tq, rfl, rfl, _, rfl, ?_⟩
      refine ite2 (fun c => ?_) (fun c => ?_)
      · have c : ¬ qq.1 = 0 := by simpa using c
        obtain ⟨r1, r2, r3, r4, r5⟩ := rq
        refine ⟨.ref l, rfl, .inl ⟨rfl, _, SqL.of hl⟩, _, rfl, qa, _, 0, .int qq.1, rfl, rfl, tG.tq, rfl, qq.1, 0, rfl, rfl, _, rfl, ?_⟩
        refine ite2 (fun cs => ?_) (fun cs => ?_)
        · have cs : qq.1 < 0 := of_decide_eq_true cs
          refine ⟨_, _, rfl, rfl, Nat.le_trans (show _ + _ ≤ 3 + 1 from Nat.add_le_add (by decide) (by decide)) (by decide), _, rfl, qa, qq.1, qq.2, rfl, tG.tq, by omega, by omega, by omega, fun z2 e2 => ?_⟩
          have lz2 : z2.length ≤ 121 := by rw [len_s, e2]; exact sizeL_len (by show qq.1.natAbs < _; omega) (by show qq.2.natAbs < _; omega)
          refine ⟨_, _, rfl, rfl, ?_, ?_⟩
          · rw [Str.length_append]
            exact Nat.le_trans (show _ + _ + z2.length ≤ 3 + 1 + 121 from Nat.add_le_add (by decide) lz2) (by decide)
          refine ⟨_, _, rfl, rfl, ?_, l, _, _, rfl, rfl, hl, by rw [List.length_map]; exact Nat.lt_of_le_of_lt lw (by decide), ?_⟩
          · rw [Str.length_append, Str.length_append]
            exact Nat.le_trans (show _ + _ + z2.length + _ ≤ 3 + 1 + 121 + 1 from Nat.add_le_add (Nat.add_le_add (by decide) lz2) (by decide)) (by decide)
          refine ⟨ws ++ [_], rfl, fun o ob h => ?_, by rw [upd_same, List.map_append]; rfl, ?_⟩
          · rw [upd_ne (ne_of_none h nl)]
            exact sG _ _ h
          · rw [List.map_append, ew]
            unfold behL eL
            rw [if_neg c]
            congr 1
            show [tl _] = _
            rw [tl_append, tl_append, tl_append, e2]
            unfold eW eIn
            rw [if_pos cs]
            simp only [List.append_assoc]
            rfl
        · have cs : ¬ qq.1 < 0 := fun y => cs (decide_eq_true y)
          refine ⟨_, _, rfl, rfl, Nat.le_trans (show _ + _ ≤ 3 + 1 from Nat.add_le_add (by decide) (by decide)) (by decide), _, rfl, qa, qq.1, qq.2, rfl, tG.tq, by omega, by omega, by omega, fun z2 e2 => ?_⟩
          have lz2 : z2.length ≤ 121 := by rw [len_s, e2]; exact sizeL_len (by show qq.1.natAbs < _; omega) (by show qq.2.natAbs < _; omega)
          refine ⟨_, _, rfl, rfl, ?_, ?_⟩
          · rw [Str.length_append]
            exact Nat.le_trans (show _ + _ + z2.length ≤ 3 + 1 + 121 from Nat.add_le_add (by decide) lz2) (by decide)
          refine ⟨_, _, rfl, rfl, ?_, l, _, _, rfl, rfl, hl, by rw [List.length_map]; exact Nat.lt_of_le_of_lt lw (by decide), ?_⟩
          · rw [Str.length_append, Str.length_append]
            exact Nat.le_trans (show _ + _ + z2.length + _ ≤ 3 + 1 + 121 + 1 from Nat.add_le_add (Nat.add_le_add (by decide) lz2) (by decide)) (by decide)
          refine ⟨ws ++ [_], rfl, fun o ob h => ?_, by rw [upd_same, List.map_append]; rfl, ?_⟩
          · rw [upd_ne (ne_of_none h nl)]
            exact sG _ _ h
          · rw [List.map_append, ew]
            unfold behL eL
            rw [if_neg c]
            congr 1
            show [tl _] = _
            rw [tl_append, tl_append, tl_append, e2]
            unfold eW eIn
            rw [if_neg cs]
            simp only [List.append_assoc]
            rfl
      · have c : qq.1 = 0 := by simpa using c
        refine ⟨ws, rfl, sG, hl, ?_⟩
        rw [ew]
        unfold behL eL
        rw [if_pos c, List.append_nil]
    clear hl ew sG
    rintro σ G ⟨ws, rfl, sG, hl, ew⟩
    have tG := ta.same sG
    obtain ⟨bs, bl⟩ := beh_sum (q := qq) k0 rq
    have sl := sum_len ew
    have cl := cnt_len ew
    refine ⟨fun σ G2 => σ = [some (.ref a), some (.ref ca), some (.int k), some (.ref qa), some (.ref l)] ∧ Same G G2 ∧ ¬ (c.1.natAbs = 1 ∧ c.2 = 1 ∧ behL k qq ≠ []), ?_, ?_⟩
    · refine ⟨_, rfl, ca, _, 0, .int c.1, rfl, rfl, tG.tc, rfl, c.1, rfl, rfl, _, rfl, ?_⟩
      rw [abs_nat]
      refine ite2 (fun e => ?_) (fun e => ?_)
      · have e : c.1.natAbs = 1 := by
          have : (c.1.natAbs : Int) = 1 := by simpa using e
          omega
        refine ⟨_, rfl, ca, _, 1, .int c.2, rfl, rfl, tG.tc, rfl, rfl, _, rfl, ?_⟩
        refine ite2 (fun e2 => ?_) (fun e2 => ?_)
        · have e2 : c.2 = 1 := by simpa using e2
          refine ⟨_, rfl, Nat.zero_le _, fun p np => ?_⟩
          have s2 : Same G (L2.upd G p (.lst [])) := same_upd np
          have hp : L2.upd G p (.lst []) p = some (.lst []) := upd_same
          generalize L2.upd G p (.lst []) = G1 at *
          refine ⟨l, p, _, rfl, rfl, SqL.of (s2 _ _ hl), SqL.of hp, _, rfl, ?_⟩
          cases ws with
          | nil =>
            refine iteF ⟨rfl, s2, fun z => ?_⟩
            exact z.2.2 (List.length_eq_zero_iff.mp cl.symm)
          | cons w0 wr =>
            refine iteT ?_
            have hb : behL k qq ≠ [] := fun z => by
              rw [z] at cl
              exact absurd cl (by simp)
            refine ⟨⟨_, rfl⟩, _, rfl, _, l, w0 :: wr, rfl, rfl, .inl (SqL.of (s2 _ _ hl)), ?_, q _ G1 (sG.trans s2) ?_ ?_⟩
            · rw [sl]
              show _ + (w0 :: wr).length * 1 ≤ _
              omega
            · rw [join_eq, tl_join, ew]
              unfold tmL wrdL
              dsimp only
              rw [if_pos ⟨e, e2, hb⟩]
              rfl
            · rw [join_eq]
              have z := PySem.StrLaws.join_length_le " " (w0 :: wr)
              rw [sl] at z
              have z2 : (" " : Str).length = 1 := rfl
              rw [z2] at z
              omega
        · have e2 : ¬ c.2 = 1 := by simpa using e2
          exact ⟨rfl, Same.refl _, fun z => e2 z.2.1⟩
      · have e : ¬ c.1.natAbs = 1 := by
          intro y
          exact e (decide_eq_true (by rw [y]; rfl))
        exact ⟨rfl, Same.refl _, fun z => e z.1⟩
    rintro σ G2 ⟨rfl, s2, no⟩
    have tG1 := tG.same s2
    have hl1 := s2 _ _ hl
    refine ⟨⟨_, rfl⟩, _, rfl, ca, c.1, c.2, rfl, tG1.tc, t1, c2, u1, fun z ez => ⟨(by show 1 ≤ sizeLine; decide), fun l2 nl2 => ?_⟩⟩
    have lz : z.length ≤ 121 := by rw [len_s, ez]; exact sizeL_len t1 (by omega)
    have s4 : Same G2 (L2.upd G2 l2 (.lst [.str z])) := same_upd nl2
    refine ⟨_, rfl, l2, l, [.str z], ws.map V.str, rfl, rfl, upd_same, s4 _ _ hl1, ?_, fun l3 nl3 => ?_⟩
    · rw [List.length_map]
      exact Nat.le_trans (show [V.str z].length + ws.length ≤ 1 + 2 from Nat.add_le_add (Nat.le_refl 1) (by omega)) (by decide)
    refine ⟨_, l3, z :: ws, rfl, rfl, .inl (SqL.of upd_same), ?_, q _ _ (sG.trans (s2.trans (s4.trans (same_upd nl3)))) ?_ ?_⟩
    · rw [List.map_cons, List.sum_cons, sl]
      show z.length + _ + (ws.length + 1) * 1 ≤ _
      omega
    · rw [join_eq, tl_join, List.map_cons, ew, ez]
      unfold tmL wrdL
      dsimp only
      rw [if_neg no]
      rfl
    · rw [join_eq]
      have y := PySem.StrLaws.join_length_le " " (z :: ws)
      rw [List.map_cons, List.sum_cons, sl] at y
      have z2 : (" " : Str).length = 1 := rfl
      rw [z2, List.length_cons] at y
      omega
/-! ### _law_text -/
def spLText (K : PySem.W.Frag) : Sp := fun vs H Q _ => ∃ (v : V) (ts : List Tm) (S : Addr → Prop), vs = [v] ∧ DE K S H v (cvD ts) ∧ (∀ t ∈ ts, TmOk t) ∧ ts.length ≤ 8 ∧ ∀ (z : Str) H', Same H H' → tl z = textL ts → z.length ≤ 4000 → Q (.str z) H'
structure LtxT (P : Program) (w : World) (K : PySem.W.Frag) (mg : Str → Option Value) (base : Heap) where
  fT : Addr
  fdT : FuncData
  FT : FnOk P w K mg base CX0 2 fT fdT ["_law_term"] (spLTerm K)
  bT : Binds K fdT ["_law_term"] []
  gT : mg "_law_term_text" = some (.ref fT)
  kT : PySem.W.keepIn K (.ref fT) = true
theorem cutV_from (xs : List V) (i : Nat) : cutV xs (some (i : Int)) none = xs.drop i := by
  unfold cutV
  rw [six_nat]
  show (xs.drop (min i xs.length)).take (xs.length - min i xs.length) = _
  by_cases h : i ≤ xs.length
  · rw [Nat.min_eq_left h, List.take_of_length_le]
    rw [List.length_drop]
    omega
  · rw [Nat.min_eq_right (by omega), List.drop_length, List.drop_eq_nil_of_le (by omega)]
    simp
theorem eqv_cv (ts : List Tm) : PyData.eqv (cvD ts) (.tuple []) = ts.isEmpty := by
  cases ts with
  | nil => rfl
  | cons x r => rfl
theorem restL_snoc : ∀ (ts : List T4) (t : T4), restL (ts ++ [t]) = restL ts ++ (sepL t ++ tmL t)
  | [], t => by simp [restL]
  | u :: r, t => by
    show sepL u ++ (tmL u ++ restL (r ++ [t])) = sepL u ++ (tmL u ++ restL r) ++ _
    rw [restL_snoc r t]
    simp only [List.append_assoc]
theorem scLText : FnScope ["_law_terms_here", "_law_made", "_law_term"] ["_law_terms_here"] (defScope sText) := ⟨rfl, rfl, rfl, by decide +kernel, rfl, by decide +kernel, by decide +kernel⟩
theorem ok_ltext {f : Addr} {fd : FuncData} (F : Fun K "_law_text" "_law_text" sText f fd) (U : LtxT P w K mg base) : FnOk P w K mg base CX0 3 f fd ["_law_terms_here"] (spLText K) := by
  refine F.ok scLText (fun vs H Q E h => ?_) (fun cdv A outer s H vs Q E hr h => ?_)
  · obtain ⟨v, ts, S, rfl, _⟩ := h
    rfl
  · obtain ⟨v, ts, S, rfl, hd, hok, hl8, q⟩ := h
    refine ⟨_, pss_cons (ps_if (pt_cmpR (op_eqD hr.units) (pv 0) (pe_tup pa_nil) (nomark _)) (pss_one (ps_ret pe_str)) pss_nil)
      (pss_cut (ps_set (i := 1) scLText.nd rfl (.inl rfl) (pe_op op_add_str (pe_ifExp (pt_cmpR op_lt (pe_ix ix_tup (pe_ix ix_tup (pe_ix ix_tup (pv 0) pe_int (fun _ _ => rfl)) pe_int (fun _ _ => rfl)) pe_int (fun _ _ => rfl)) pe_int (nomark _)) pe_str pe_str)
          (pe_call U.FT hr (by rfl) U.gT U.kT U.bT .nil pass0 (pa_cons (pe_ix ix_tup (pv 0) pe_int (fun _ _ => rfl)) pa_nil))))
      (pss_cons (ps_for PassesOwn.never rfl (pi_tup (pe_slice sl_tup (pv 0) (po_some pe_int) po_none)) (pg_name (i := 2) scLText.nd rfl (.inl rfl))
        (pss_one (ps_set (i := 1) scLText.nd rfl (.inl rfl) (pe_op op_add_str (pe_op op_add_str (pv 1) (pe_ifExp (pt_cmpR op_lt (pe_ix ix_tup (pe_ix ix_tup (pv 2) pe_int (fun _ _ => rfl)) pe_int (fun _ _ => rfl)) pe_int (nomark _)) pe_str pe_str))
          (pe_call U.FT hr (by rfl) U.gT U.kT U.bT .nil pass0 (pa_cons (pv 2) pa_nil))))))
      (pss_one (ps_ret (pv 1))))), ?_⟩
    refine ⟨_, rfl, Nat.zero_le _, fun p np => ?_⟩
    have s1 : Same H (L2.upd H p (.tup [])) := same_upd np
    have hp : L2.upd H p (.tup []) p = some (.tup []) := upd_same
    generalize L2.upd H p (.tup []) = H1 at *
    have hd1 := DE.same s1 hd
    refine ⟨_, _, de_cv hd1, .tup (SqT.of hp) .nil, sh_cv ts, by decide +kernel, _, rfl, ?_⟩
    rw [eqv_cv]
    cases ts with
    | nil => exact iteT (q "0" H1 s1 rfl (by decide))
    | cons t r =>
      refine iteF ?_
      cases hd1 with
      | tup h1 r1 =>
      rename_i a xs
      have sq := h1.sq
      have lx := r1.len
      obtain ⟨ta, ca, qa, e0, t0⟩ := des_at (j := 0) r1 (show (t :: r)[0]? = some t from rfl)
      have at0 : atI xs 0 = some (.ref ta) := atI_nat (j := 0) e0
      have okt := hok t List.mem_cons_self
      refine ⟨fun σ G => ∃ z : Str, σ = [some (.ref a), some (.str z), none] ∧ Same H1 G ∧ tl z = (if t.1.1 < 0 then [45] else []) ++ tmL t ∧ z.length ≤ 401, ?_, ?_⟩
      · refine ⟨_, rfl, a, _, 0, _, rfl, rfl, sq, at0, ta, _, 0, .ref ca, rfl, rfl, t0.t0, rfl, ca, _, 0, .int t.1.1, rfl, rfl, t0.tc, rfl, t.1.1, 0, rfl, rfl, _, rfl, ?_⟩
        refine ite2 (fun c => ?_) (fun c => ?_)
        · have c : t.1.1 < 0 := of_decide_eq_true c
          refine ⟨_, rfl, a, _, 0, _, rfl, rfl, sq, at0, ta, ca, qa, t, rfl, t0, okt, fun z G s2 ez lz => ?_⟩
          refine ⟨_, _, rfl, rfl, Nat.le_trans (show _ + z.length ≤ 1 + 400 from Nat.add_le_add (by decide) lz) (by decide), _, rfl, s2, ?_, ?_⟩
          · rw [tl_append, ez, if_pos c]
            rfl
          · rw [Str.length_append]
            exact Nat.add_le_add (show _ ≤ 1 by decide) lz
        · have c : ¬ t.1.1 < 0 := fun y => c (decide_eq_true y)
          refine ⟨_, rfl, a, _, 0, _, rfl, rfl, sq, at0, ta, ca, qa, t, rfl, t0, okt, fun z G s2 ez lz => ?_⟩
          refine ⟨_, _, rfl, rfl, Nat.le_trans (show _ + z.length ≤ 1 + 400 from Nat.add_le_add (by decide) lz) (by decide), _, rfl, s2, ?_, ?_⟩
          · rw [tl_append, ez, if_neg c]
            rfl
          · rw [Str.length_append]
            exact Nat.add_le_add (show _ ≤ 1 by decide) lz
      rintro σ G ⟨z0, rfl, s2, ez0, lz0⟩
      have sq2 : SqT K G a xs := Nm.Same.seqT s2 sq
      rw [List.length_map, List.length_cons] at lx
      refine ⟨_, rfl, 1, rfl, a, xs, rfl, sq2, ?_, fun p2 np2 => ?_⟩
      · rintro ⟨z1, _⟩
        have z1 : min 1 xs.length = 0 := z1
        omega
      have e1 : cutV xs (some 1) none = xs.drop 1 := cutV_from xs 1
      rw [e1]
      have s3 : Same G (L2.upd G p2 (.tup (xs.drop 1))) := same_upd np2
      have hp2 : L2.upd G p2 (.tup (xs.drop 1)) p2 = some (.tup (xs.drop 1)) := upd_same
      generalize L2.upd G p2 (.tup (xs.drop 1)) = G1 at *
      refine ⟨p2, rfl, ⟨_, SqT.of hp2⟩, ?_⟩
      refine for_tup (K := K) (a := p2) (xs := xs.drop 1) (fun i σ G2 => ∃ (z : Str) (y : Option V), σ = [some (.ref a), some (.str z), y] ∧ Same G1 G2 ∧ tl z = (if t.1.1 < 0 then [45] else []) ++ (tmL t ++ restL (r.take i)) ∧ z.length ≤ 401 + 403 * i)
        ⟨z0, none, rfl, Same.refl _, by rw [ez0]; simp [restL], by omega⟩ (fun i σ G2 _ ⟨_, _, _, s, _⟩ => SqT.of (s _ _ hp2)) ?_ ?_
      · rintro i x σ G2 hx ⟨z, y, rfl, s4, ez, lz⟩
        have hi := (List.getElem?_eq_some_iff.mp hx).1
        rw [List.length_drop] at hi
        have hir : i < r.length := by omega
        obtain ⟨u, hu⟩ : ∃ u, r[i]? = some u := ⟨r[i], List.getElem?_eq_getElem hir⟩
        obtain ⟨tb, cb, qb, e5, t5⟩ := des_at (j := i + 1) r1 (show (t :: r)[i + 1]? = some u by simpa using hu)
        rw [List.getElem?_drop, show 1 + i = i + 1 by omega, e5] at hx
        obtain rfl := (Option.some.inj hx).symm
        have t6 := t5.same (s2.trans (s3.trans s4))
        have oku := hok u (List.mem_cons_of_mem _ (List.mem_of_getElem? hu))
        have etk : r.take (i + 1) = r.take i ++ [u] := by rw [List.take_add_one, hu]; rfl
        have hl8' : r.length + 1 ≤ 8 := hl8
        have big : 401 + 403 * i + 3 + 400 ≤ sizeLine := Nat.le_trans (show 401 + 403 * i + 3 + 400 ≤ 10000 by omega) (by decide)
        refine ⟨_, rfl, _, rfl, tb, _, 0, .ref cb, rfl, rfl, t6.t0, rfl, cb, _, 0, .int u.1.1, rfl, rfl, t6.tc, rfl, u.1.1, 0, rfl, rfl, _, rfl, ?_⟩
        refine ite2 (fun c => ?_) (fun c => ?_)
        · have c : u.1.1 < 0 := of_decide_eq_true c
          refine ⟨_, _, rfl, rfl, Nat.le_trans (show z.length + _ ≤ 401 + 403 * i + 3 from Nat.add_le_add lz (by decide)) (by omega), _, rfl, tb, cb, qb, u, rfl, t6, oku, fun z2 G3 s7 ez2 lz2 => ?_⟩
          have l3 : (z ++ " - " ++ z2).length ≤ 401 + 403 * i + 3 + 400 := by
            rw [Str.length_append, Str.length_append]
            exact Nat.add_le_add (Nat.add_le_add lz (show Str.length " - " ≤ 3 by decide)) lz2
          refine ⟨_, _, rfl, rfl, ?_, _, _, rfl, s4.trans s7, ?_, Nat.le_trans l3 (by omega)⟩
          · rw [← Str.length_append]
            exact Nat.le_trans l3 big
          · rw [tl_append, tl_append, ez, ez2, etk, restL_snoc]
            unfold sepL
            rw [if_pos c]
            simp only [List.append_assoc]
            rfl
        · have c : ¬ u.1.1 < 0 := fun y => c (decide_eq_true y)
          refine ⟨_, _, rfl, rfl, Nat.le_trans (show z.length + _ ≤ 401 + 403 * i + 3 from Nat.add_le_add lz (by decide)) (by omega), _, rfl, tb, cb, qb, u, rfl, t6, oku, fun z2 G3 s7 ez2 lz2 => ?_⟩
          have l3 : (z ++ " + " ++ z2).length ≤ 401 + 403 * i + 3 + 400 := by
            rw [Str.length_append, Str.length_append]
            exact Nat.add_le_add (Nat.add_le_add lz (show Str.length " + " ≤ 3 by decide)) lz2
          refine ⟨_, _, rfl, rfl, ?_, _, _, rfl, s4.trans s7, ?_, Nat.le_trans l3 (by omega)⟩
          · rw [← Str.length_append]
            exact Nat.le_trans l3 big
          · rw [tl_append, tl_append, ez, ez2, etk, restL_snoc]
            unfold sepL
            rw [if_neg c]
            simp only [List.append_assoc]
            rfl
      · rintro σ G2 ⟨z, y, rfl, s4, ez, lz⟩
        have lr : (xs.drop 1).length = r.length := by rw [List.length_drop]; omega
        rw [lr] at ez lz
        rw [List.take_length] at ez
        have hl8' : r.length + 1 ≤ 8 := hl8
        exact ⟨_, rfl, q z G2 (s1.trans (s2.trans (s3.trans s4))) ez (by omega)⟩
end
end Nm

/-! The law's _law_number, _law_size_read, _law_power_read, _law_e_read. -/
namespace Nm
open PySem PySem.Spec PyProof.Rows L2 LamX TL
abbrev sNumber : Stmt := topS 57
abbrev sSizeR : Stmt := topS 58
abbrev sPowR : Stmt := topS 59
abbrev sER : Stmt := topS 60
def numV : Option Nat → V
  | none => .non
  | some n => .int (n : Int)
def spNumb : Sp := fun vs H Q _ => ∃ z : Str, vs = [.str z] ∧ z.length ≤ 1000000 ∧ ∀ H', Same H H' → Q (numV (numR (tl z))) H'
theorem in_digits (c : Nat) : decide (c ∈ (Str.ofString "0123456789").cps.toList) = dig c := by
  have e : (Str.ofString "0123456789").cps.toList = [48, 49, 50, 51, 52, 53, 54, 55, 56, 57] := rfl
  rw [e]
  unfold dig
  by_cases h : 48 ≤ c ∧ c ≤ 57
  · rw [decide_eq_true h.1, decide_eq_true h.2]
    have : c = 48 ∨ c = 49 ∨ c = 50 ∨ c = 51 ∨ c = 52 ∨ c = 53 ∨ c = 54 ∨ c = 55 ∨ c = 56 ∨ c = 57 := by omega
    rcases this with rfl | rfl | rfl | rfl | rfl | rfl | rfl | rfl | rfl | rfl <;> decide
  · have : (decide (48 ≤ c) && decide (c ≤ 57)) = false := by
      cases e1 : decide (48 ≤ c) with
      | false => rfl
      | true =>
        cases e2 : decide (c ≤ 57) with
        | false => rfl
        | true => exact absurd ⟨of_decide_eq_true e1, of_decide_eq_true e2⟩ h
    rw [this, decide_eq_false]
    intro hm
    simp only [List.mem_cons, List.not_mem_nil, or_false] at hm
    omega
section
variable {P : Program} {w : World} {K : PySem.W.Frag} {mg : Str → Option Value} {base : Heap}
theorem scNumb : FnScope ["_law_word_here", "_law_sign"] ["_law_word_here"] (defScope sNumber) := ⟨rfl, rfl, rfl, by decide +kernel, rfl, by decide +kernel, by decide +kernel⟩
theorem ok_numb {f : Addr} {fd : FuncData} {k : Nat} (F : Fun K "_law_number" "_law_number" sNumber f fd) (J : JudT mg) : FnOk P w K mg base CX0 (k + 1) f fd ["_law_word_here"] spNumb := by
  refine F.ok scNumb (fun vs H Q E h => ?_) (fun cdv A outer s H vs Q E hr h => ?_)
  · obtain ⟨z, rfl, _⟩ := h
    rfl
  · obtain ⟨z, rfl, hz, q⟩ := h
    refine ⟨_, pss_cut (ps_if (PW.pt (pw_or (pt_not (pt_chain op_lt op_lt pe_int (pe_callB call_len_str (by rfl) J.len PySem.boot_len (pa_cons (pv 0) pa_nil)) pe_int)) (pw_or1 (pt_not (pt_val (pe_callB (cr_all rfl) (by rfl) J.all (by decide +kernel) (pa_cons
          (pe_lc (own := [("_law_sign", 1)]) (g := gName 1) (tt := tYes) (by rfl) scNumb.nd (pi_str (pv 0)) (blkOk_by (N := ["_law_word_here", "_law_sign"]) (sc := defScope sNumber) (by decide +kernel))
            (fun _ _ _ _ _ => pg_name (i := 1) scNumb.nd rfl (Or.inl rfl)) (fun _ _ _ _ _ => pts_nil) (fun _ _ _ _ _ => pe_cmpR op_in_sign (pv 1) pe_str (by rfl))) pa_nil)))))))
        (pss_one (ps_ret pe_non)) pss_nil)
      (pss_one (ps_ret (pe_ifExp (PW.pt (pw_and (pt_cmpR op_eq (pe_ix ix_str (pv 0) pe_int (fun _ _ => rfl)) pe_str (nomark _)) (pw_and1 (pt_cmpR op_gt (pe_callB call_len_str (by rfl) J.len PySem.boot_len (pa_cons (pv 0) pa_nil)) pe_int (nomark _)))))
        pe_non (pe_callTy call_int_str (by rfl) J.int (by decide +kernel) (pa_cons (pv 0) pa_nil))))), ?_⟩
    have hl := len_s z
    have hsz := size_ok hz
    refine ⟨fun σ G => σ = [some (.str z), none] ∧ Same H G ∧ 0 < (tl z).length ∧ (tl z).length < 31 ∧ (tl z).all dig = true, ?_, ?_⟩
    · have no : (0 < (tl z).length ∧ (tl z).length < 31 ∧ (tl z).all dig = true → False) → ∀ G, Same H G → Q .non G := fun n G sG => by
        have z1 := q G sG
        unfold numR at z1
        rw [if_neg n] at z1
        exact z1
      refine ⟨_, rfl, z, rfl, hsz, 0, (z.length : Int), rfl, rfl, _, rfl, ?_⟩
      refine ite2 (fun c => ?_) (fun c => ?_)
      · have c : (0 : Int) < (z.length : Int) := of_decide_eq_true c
        refine ⟨(z.length : Int), 31, rfl, rfl, _, rfl, ?_⟩
        refine ite2 (fun c2 => ?_) (fun c2 => ?_)
        · have c2 : ¬ (z.length : Int) < 31 := fun y => by rw [decide_eq_true y] at c2; cases c2
          exact no (fun y => by omega) H (Same.refl _)
        · have c2 : (z.length : Int) < 31 := Decidable.byContradiction fun y => c2 (by rw [decide_eq_false y]; rfl)
          refine ⟨_, rfl, z, rfl, fun D nD => ?_⟩
          refine lc_str (x := z) (fun i G => Same H G ∧ G D = some (.lst (((tl z).take i).map fun c => V.bl (dig c)))) ⟨same_upd nD, upd_same⟩ ?_ ?_
          · rintro i c G hc ⟨sG, hD⟩
            have hc : (tl z)[i]? = some c := by rw [← hc]; exact Array.getElem?_toList
            refine ⟨rfl, ?_⟩
            unfold tYes
            dsimp only
            rw [if_pos rfl]
            refine ⟨_, rfl, c, _, rfl, rfl, _, hD, ?_, ?_, ?_⟩
            · rw [List.length_map, List.length_take]
              exact Nat.lt_of_le_of_lt (show min i (tl z).length ≤ 31 by omega) (by decide)
            · intro p o hp
              rw [upd_ne (ne_of_none hp nD)]
              exact sG _ _ hp
            · rw [upd_same, in_digits, List.take_add_one, hc, List.map_append]
              rfl
          · rintro G ⟨sG, hD⟩
            have e : (tl z).take z.cps.size = tl z := List.take_of_length_le (by rw [← Array.length_toList]; exact Nat.le_refl _)
            rw [e] at hD
            refine ⟨D, (tl z).map dig, rfl, SqL.of (by rw [hD, List.map_map]; rfl), _, rfl, ?_⟩
            have ea : ((tl z).map dig).all id = (tl z).all dig := by rw [List.all_map]; rfl
            rw [ea]
            cases e3 : (tl z).all dig with
            | true => exact iteF ⟨rfl, sG, by omega, by omega, rfl⟩
            | false => exact iteT (no (fun y => by rw [e3] at y; exact absurd y.2.2 (by simp)) G sG)
      · have c : ¬ (0 : Int) < (z.length : Int) := fun y => c (decide_eq_true y)
        refine ⟨_, rfl, ?_⟩
        exact iteT (no (fun y => by omega) H (Same.refl _))
    rintro σ G ⟨rfl, sG, h1, h2, h3⟩
    have q := q G sG
    unfold numR at q
    rw [if_pos ⟨h1, h2, h3⟩] at q
    have hint : PySem.intText? z = some ((NumText.digitsVal (tl z) : Nat) : Int) := PySem.intText_digits (all_dig.mp h3) (fun e => by
      have e : tl z = [] := e
      rw [e] at h1; simp at h1) (by omega)
    obtain ⟨c, r, ez⟩ : ∃ c r, tl z = c :: r := by
      cases e : tl z with
      | nil => rw [e] at h1; simp at h1
      | cons c r => exact ⟨c, r, rfl⟩
    have hc0 : (tl z)[0]? = some c := by rw [ez]; rfl
    refine ⟨_, rfl, z, 0, c, rfl, rfl, hsz, atI_nat (j := 0) hc0, rfl, _, rfl, ?_⟩
    have e48 : decide (V.str ⟨#[c]⟩ = V.str (Str.ofString "0")) = decide (c = 48) := by
      by_cases h : c = 48
      · subst h
        rw [decide_eq_true rfl, decide_eq_true]
        rfl
      · rw [decide_eq_false h, decide_eq_false]
        intro e
        injection e with e
        have e := congrArg tl e
        have e : [c] = [48] := e
        injection e with e _
        exact h e
    rw [e48]
    have hh : (tl z).head? = some c := by rw [ez]; rfl
    refine ite2 (fun y => ?_) (fun y => ?_)
    · have y : c = 48 := of_decide_eq_true y
      refine ⟨_, rfl, z, rfl, hsz, (z.length : Int), 1, rfl, rfl, _, rfl, ?_⟩
      refine ite2 (fun y2 => ?_) (fun y2 => ?_)
      · have y2 : (1 : Int) < (z.length : Int) := of_decide_eq_true y2
        rw [if_pos ⟨by rw [hh, y], by omega⟩] at q
        exact q
      · have y2 : ¬ (1 : Int) < (z.length : Int) := fun x => y2 (decide_eq_true x)
        rw [if_neg (fun x => by omega)] at q
        exact ⟨_, rfl, z, _, rfl, hint, by omega, q⟩
    · have y : ¬ c = 48 := fun x => y (decide_eq_true x)
      rw [if_neg (fun x => by rw [hh] at x; exact y (Option.some.inj x.1))] at q
      exact ⟨_, rfl, z, _, rfl, hint, by omega, q⟩
/-! ### _law_power_read -/
def spPow : Sp := fun vs H Q _ => ∃ z : Str, vs = [.str z] ∧ z.length ≤ 1000000 ∧ ∀ H', Same H H' → Q (match powR (tl z) with | some k => .int k | none => .non) H'
theorem scPow : FnScope ["_law_word_here"] ["_law_word_here"] (defScope sPowR) := ⟨rfl, rfl, rfl, by decide +kernel, rfl, by decide +kernel, by decide +kernel⟩
theorem str_dec (x y : Str) : decide (V.str x = V.str y) = decide (tl x = tl y) := by
  by_cases h : tl x = tl y
  · rw [decide_eq_true h, ext_tl h, decide_eq_true rfl]
  · rw [decide_eq_false h, decide_eq_false]
    intro e
    injection e with e
    exact h (by rw [e])
theorem ok_pow {f : Addr} {fd : FuncData} {k : Nat} (F : Fun K "_law_power_read" "_law_power_read" sPowR f fd) (J : JudT mg) : FnOk P w K mg base CX0 (k + 1) f fd ["_law_word_here"] spPow := by
  refine F.ok scPow (fun vs H Q E h => ?_) (fun cdv A outer s H vs Q E hr h => ?_)
  · obtain ⟨z, rfl, _⟩ := h
    rfl
  · obtain ⟨z, rfl, hz, q⟩ := h
    refine ⟨_, pss_cons (ps_if (pt_cmpR op_eq (pv 0) pe_str (nomark _)) (pss_one (ps_ret pe_int)) pss_nil)
      (pss_one (ps_ret (pe_ifExp (pt_cmpR op_in_seq (pv 0) (pe_lst (pa_cons pe_str (pa_cons pe_str pa_nil))) (by rfl)) (pe_callTy call_int_str (by rfl) J.int (by decide +kernel) (pa_cons (pe_slice sl_str (pv 0) (po_some pe_int) po_none) pa_nil)) pe_non))), ?_⟩
    refine ⟨_, rfl, rfl, _, rfl, ?_⟩
    rw [str_dec]
    have et : tl (Str.ofString "t") = [116] := rfl
    rw [et]
    refine ite2 (fun c => ?_) (fun c => ?_)
    · have c : tl z = [116] := of_decide_eq_true c
      have q := q H (Same.refl _)
      unfold powR at q
      rw [if_pos c] at q
      exact q
    · have c : ¬ tl z = [116] := fun y => c (decide_eq_true y)
      refine ⟨_, rfl, (by show 2 ≤ sizeLine; decide), fun p np => ?_⟩
      have s1 : Same H (L2.upd H p (.lst [.str "t^2", .str "t^3"])) := same_upd np
      have hp : L2.upd H p (.lst [.str "t^2", .str "t^3"]) p = some (.lst [.str "t^2", .str "t^3"]) := upd_same
      generalize L2.upd H p (.lst [.str "t^2", .str "t^3"]) = H1 at *
      have q := q H1 s1
      unfold powR at q
      rw [if_neg c] at q
      refine ⟨p, _, rfl, .inl (SqL.of hp), rfl, rfl, _, rfl, ?_⟩
      dsimp only [Bool.false_eq_true, if_false]
      have ein : inV (.str z) [.str "t^2", .str "t^3"] = (decide (tl z = [116, 94, 50]) || decide (tl z = [116, 94, 51])) := by
        have b : ∀ y : Str, (y == z) = decide (tl z = tl y) := fun y => by
          by_cases h : tl z = tl y
          · rw [decide_eq_true h, ext_tl h]
            exact beq_self_eq_true _
          · rw [decide_eq_false h, beq_eq_false_iff_ne]
            intro e
            exact h (by rw [e])
        show ((("t^2" : Str) == z) || ((("t^3" : Str) == z) || false)) = _
        rw [b, b, Bool.or_false]
        rfl
      rw [ein]
      have read : ∀ d : Nat, tl z = [116, 94, d] → 48 ≤ d → d ≤ 57 → PySem.intText? (cutS z (some 2) none) = some ((d - 48 : Nat) : Int) ∧ (cutS z (some 2) none).length ≤ 640 := fun d e d1 d2 => by
        have e2 : tl (cutS z (some 2) none) = [d] := by
          have := cut_from z 2
          rw [e] at this
          exact this
        have hx : (cutS z (some 2) none).cps.toList = [d] := e2
        refine ⟨?_, by rw [len_s, e2]; show 1 ≤ 640; decide⟩
        have y := PySem.intText_digits (x := cutS z (some 2) none) (by rw [hx]; intro c hc; rw [List.mem_singleton.mp hc]; exact ⟨d1, d2⟩) (by rw [hx]; simp) (by rw [len_s, e2]; show 1 ≤ 4300; decide)
        rw [hx] at y
        rw [y]
        show some (((0 * 10 + (d - 48) : Nat)) : Int) = _
        congr 2
        omega
      by_cases c2 : tl z = [116, 94, 50]
      · rw [decide_eq_true c2, Bool.true_or]
        refine iteT ?_
        rw [if_pos c2] at q
        obtain ⟨r1, r2⟩ := read 50 c2 (by omega) (by omega)
        exact ⟨_, rfl, 2, rfl, z, rfl, size_ok hz, _, _, rfl, r1, r2, q⟩
      · rw [if_neg c2] at q
        rw [decide_eq_false c2, Bool.false_or]
        by_cases c3 : tl z = [116, 94, 51]
        · rw [decide_eq_true c3]
          refine iteT ?_
          rw [if_pos c3] at q
          obtain ⟨r1, r2⟩ := read 51 c3 (by omega) (by omega)
          exact ⟨_, rfl, 2, rfl, z, rfl, size_ok hz, _, _, rfl, r1, r2, q⟩
        · rw [decide_eq_false c3]
          refine iteF ?_
          rw [if_neg c3] at q
          exact q
/-! ### _law_size_read -/
structure LszT (P : Program) (w : World) (K : PySem.W.Frag) (mg : Str → Option Value) (base : Heap) where
  fN : Addr
  fdN : FuncData
  fC : Addr
  fdC : FuncData
  FN : FnOk P w K mg base CX0 1 fN fdN ["_law_word_here"] spNumb
  FC : FnOk P w K mg base CX0 1 fC fdC ["_law_one", "_law_other"] spCommon
  bN : Binds K fdN ["_law_word_here"] []
  bC : Binds K fdC ["_law_one", "_law_other"] []
  gN : mg "_law_number" = some (.ref fN)
  gC : mg "_law_common" = some (.ref fC)
  kN : PySem.W.keepIn K (.ref fN) = true
  kC : PySem.W.keepIn K (.ref fC) = true
def spLSz : Sp := fun vs H Q _ => ∃ z : Str, vs = [.str z] ∧ z.length ≤ 1000000 ∧ RdQ H Q (szR (tl z))
theorem scLSz : FnScope ["_law_word_here", "_law_halves", "_law_numbers", "_law_half"] ["_law_word_here"] (defScope sSizeR) := ⟨rfl, rfl, rfl, by decide +kernel, rfl, by decide +kernel, by decide +kernel⟩
theorem spl_lens (s : Nat) : ∀ (l acc : Sg) (p : Sg), p ∈ spl [s] 0 acc l → p.length ≤ acc.length + l.length
  | [], acc, p, h => by
    rw [spl_nil] at h
    rw [List.mem_singleton.mp h]
    simp
  | c :: r, acc, p, h => by
    rw [List.length_cons]
    by_cases e : c = s
    · subst e
      rw [spl1_hit] at h
      rcases List.mem_cons.mp h with rfl | h
      · omega
      · have := spl_lens c r [] p h
        rw [List.length_nil] at this
        omega
    · rw [spl1_miss e] at h
      have := spl_lens s r _ p h
      rw [List.length_append, List.length_singleton] at this
      omega
theorem in_none (os : List (Option Nat)) : inV .non (os.map numV) = os.any fun o => o.isNone := by
  induction os with
  | nil => rfl
  | cons o r ih =>
    show (eqV (numV o) .non || inV .non (r.map numV)) = _
    rw [ih]
    cases o <;> rfl
theorem in_zero (os : List (Option Nat)) : inV (.int 0) (os.map numV) = os.any fun o => decide (o = some 0) := by
  induction os with
  | nil => rfl
  | cons o r ih =>
    show (eqV (numV o) (.int 0) || inV (.int 0) (r.map numV)) = _
    rw [ih, List.any_cons]
    congr 1
    cases o with
    | none => rfl
    | some n =>
      show ((n : Int) == 0) = _
      by_cases h : n = 0
      · subst h; rfl
      · rw [decide_eq_false (by simpa using h), beq_eq_false_iff_ne]
        omega
theorem flat_num (os : List (Option Nat)) : (os.map numV).all flatV = true := by
  induction os with
  | nil => rfl
  | cons o r ih =>
    rw [List.map_cons, List.all_cons, ih]
    cases o <;> rfl
theorem szN_3 (a b d : Option Nat) (r : List (Option Nat)) : szN (a :: b :: d :: r) = none := by cases a <;> cases b <;> rfl
theorem ok_lsz {f : Addr} {fd : FuncData} (F : Fun K "_law_size_read" "_law_size_read" sSizeR f fd) (J : JudT mg) (U : LszT P w K mg base) : FnOk P w K mg base CX0 2 f fd ["_law_word_here"] spLSz := by
  refine F.ok scLSz (fun vs H Q E h => ?_) (fun cdv A outer s H vs Q E hr h => ?_)
  · obtain ⟨z, rfl, _⟩ := h
    rfl
  · obtain ⟨z, rfl, hz, q⟩ := h
    refine ⟨_, pss_cons (ps_set (i := 1) scLSz.nd rfl (.inl rfl) (pe_split (pv 0) pe_str))
      (pss_cons (ps_setLc (i := 2) (own := [("_law_half", 3)]) (g := gName 3) (tt := tYes) (by rfl) scLSz.nd rfl rfl (sw_true rfl rfl rfl (by decide +kernel)) (pi_list (pv 1)) (blkOk_by (N := ["_law_word_here", "_law_halves", "_law_numbers", "_law_half"]) (sc := defScope sSizeR) (by decide +kernel))
          (fun _ _ _ _ _ => pg_name (i := 3) scLSz.nd rfl (Or.inl rfl)) (fun _ _ _ _ _ => pts_nil) (fun _ _ _ _ _ => pe_call U.FN (by exact hr) (by rfl) U.gN U.kN U.bN .nil pass0 (pa_cons (pv 3) pa_nil)))
      (pss_cut (ps_if (PW.pt (pw_or (pt_cmpR op_gt (pe_callB call_len_seq (by rfl) J.len PySem.boot_len (pa_cons (pv 1) pa_nil)) pe_int (nomark _)) (pw_or (pt_cmpR op_in_seq pe_non (pv 2) (by rfl)) (pw_or1 (pt_cmpR op_in_seq pe_int (pv 2) (by rfl))))))
        (pss_one (ps_ret pe_non)) pss_nil)
      (pss_cons (ps_if (pt_cmpR op_eq (pe_callB call_len_seq (by rfl) J.len PySem.boot_len (pa_cons (pv 2) pa_nil)) pe_int (nomark _)) (pss_one (ps_ret (pe_tup (pa_cons (pe_ix ix_list (pv 2) pe_int (fun _ _ => rfl)) (pa_cons pe_int pa_nil))))) pss_nil)
      (pss_one (ps_ret (pe_ifExp (PW.pt (pw_and (pt_cmpR op_gt (pe_ix ix_list (pv 2) pe_int (fun _ _ => rfl)) pe_int (nomark _)) (pw_and1 (pt_cmpR op_eq (pe_call U.FC hr (by rfl) U.gC U.kC U.bC .nil pass0 (pa_cons (pe_ix ix_list (pv 2) pe_int (fun _ _ => rfl)) (pa_cons (pe_ix ix_list (pv 2) pe_int (fun _ _ => rfl)) pa_nil))) pe_int (nomark _)))))
        (pe_tup (pa_cons (pe_ix ix_list (pv 2) pe_int (fun _ _ => rfl)) (pa_cons (pe_ix ix_list (pv 2) pe_int (fun _ _ => rfl)) pa_nil))) pe_non)))))), ?_⟩
    have hbl := len_s z
    refine ⟨_, rfl, ⟨_, rfl⟩, _, _, rfl, rfl, rfl, Nat.le_trans (show z.length + 2 ≤ 1000002 by omega) (by decide), fun l nl => ?_⟩
    have sp : (Txt.split z "/").map tl = spl [47] 0 [] (tl z) := split_spl z "/" (by show ([47] : Sg) ≠ []; simp) (kind_ok (by decide +kernel))
    obtain ⟨ws, ews⟩ : ∃ ws, ws = Txt.split z "/" := ⟨_, rfl⟩
    rw [← ews] at sp
    generalize eH1 : L2.upd H l _ = H1
    have s1 : Same H H1 := by rw [← eH1]; exact same_upd nl
    have hl1 : H1 l = some (.lst (ws.map V.str)) := by rw [← eH1, upd_same, ews]
    have hwl : ∀ y ∈ ws, y.length ≤ 1000000 := fun y hy => by
      have hm : tl y ∈ spl [47] 0 [] (tl z) := by rw [← sp]; exact List.mem_map_of_mem hy
      have := spl_lens 47 _ _ _ hm
      rw [List.length_nil] at this
      rw [len_s]
      omega
    have cnt : ws.length ≤ 1000001 := by
      have y := congrArg List.length sp
      rw [List.length_map] at y
      have := spl_cnt 47 (tl z) []
      omega
    refine ⟨_, rfl, l, rfl, ⟨_, SqL.of hl1⟩, fun D nD => ?_⟩
    have nDl : D ≠ l := (ne_of_none hl1 nD).symm
    refine lc_list (K := K) (a := l) (xs := ws.map V.str) (fun i G => Same H1 G ∧ G D = some (.lst (((ws.take i).map tl).map numR |>.map numV))) ⟨same_upd nD, upd_same⟩ (fun i G _ ⟨s, _⟩ => SqL.of (s _ _ hl1)) ?_ ?_
    · rintro i x G hx ⟨sG, hD⟩
      rw [List.getElem?_map] at hx
      obtain ⟨y, hy, rfl⟩ : ∃ y, ws[i]? = some y ∧ V.str y = x := by
        cases e : ws[i]? with
        | none => rw [e] at hx; cases hx
        | some y => rw [e] at hx; exact ⟨y, rfl, Option.some.inj hx⟩
      refine ⟨rfl, ?_⟩
      unfold tYes
      dsimp only
      rw [if_pos rfl]
      refine ⟨_, rfl, y, rfl, hwl y (List.mem_of_getElem? hy), fun G2 s2 => ⟨_, s2 _ _ hD, ?_, ?_, ?_⟩⟩
      · rw [List.length_map, List.length_map, List.length_map, List.length_take]
        exact Nat.lt_of_le_of_lt (show min i ws.length ≤ 1000001 by omega) (by decide)
      · intro p o hp
        rw [upd_ne (ne_of_none hp nD)]
        exact s2 _ _ (sG _ _ hp)
      · rw [upd_same, List.take_add_one, hy, List.map_append, List.map_append, List.map_append]
        rfl
    · rintro G ⟨sG, hD⟩
      rw [List.length_map, List.take_length, sp] at hD
      have hlG := sG _ _ hl1
      obtain ⟨os, eos⟩ : ∃ os, os = (spl [47] 0 [] (tl z)).map numR := ⟨_, rfl⟩
      rw [← eos] at hD
      have lo : os.length = ws.length := by
        have y := congrArg List.length sp
        rw [List.length_map] at y
        rw [eos, List.length_map]
        exact y.symm
      have hne : os ≠ [] := fun e => by
        rw [e] at eos
        exact spl_ne _ _ _ _ (List.map_eq_nil_iff.mp eos.symm)
      have q : RdQ H Q (szN os) := by
        rw [eos]
        exact q
      have s01 := s1.trans sG
      refine ⟨fun σ G2 => σ = [some (.str z), some (.ref l), some (.ref D), none] ∧ G2 = G ∧ ¬ 2 < os.length ∧ (os.any fun o => o.isNone) = false ∧ (os.any fun o => decide (o = some 0)) = false, ?_, ?_⟩
      · refine ⟨_, rfl, l, _, rfl, .inl (SqL.of hlG), _, 2, rfl, rfl, _, rfl, ?_⟩
        rw [List.length_map]
        refine ite2 (fun c => ?_) (fun c => ?_)
        · have c : (2 : Int) < (ws.length : Int) := of_decide_eq_true c
          have : szN os = none := by
            match os, lo with
            | a :: b :: d :: r, _ => exact szN_3 a b d r
            | [], h => simp at h; omega
            | [a], h => simp at h; omega
            | [a, b], h => simp at h; omega
          rw [this] at q
          exact q G s01
        · have c : ¬ (2 : Int) < (ws.length : Int) := fun y => c (decide_eq_true y)
          refine ⟨_, rfl, D, _, rfl, .inl (SqL.of hD), rfl, flat_num os, _, rfl, ?_⟩
          dsimp only [Bool.false_eq_true, if_false]
          rw [in_none]
          cases e1 : (os.any fun o => o.isNone) with
          | true =>
            refine iteT ?_
            have : szN os = none := by
              match os, e1 with
              | [none], _ => rfl
              | [none, _], _ => rfl
              | [some a, none], _ => rfl
              | [some a], h => simp at h
              | [some a, some b], h => simp at h
              | a :: b :: d :: r, _ => exact szN_3 a b d r
            rw [this] at q
            exact q G s01
          | false =>
            refine iteF ?_
            refine ⟨_, rfl, D, _, rfl, .inl (SqL.of hD), rfl, flat_num os, _, rfl, ?_⟩
            dsimp only [Bool.false_eq_true, if_false]
            rw [in_zero]
            cases e2 : (os.any fun o => decide (o = some 0)) with
            | true =>
              refine iteT ?_
              have : szN os = none := by
                match os, e1, e2 with
                | [none], _, _ => rfl
                | [none, _], _, _ => rfl
                | [some a, none], _, _ => rfl
                | [some a], _, h =>
                  have h : a = 0 := by simpa using h
                  subst h; rfl
                | [some a, some b], _, h =>
                  have h : a = 0 ∨ b = 0 := by simpa using h
                  exact if_pos h
                | a :: b :: d :: r, _, _ => exact szN_3 a b d r
              rw [this] at q
              exact q G s01
            | false => exact iteF ⟨rfl, rfl, by omega, rfl, rfl⟩
      rintro σ G2 ⟨rfl, rfl, n2, n3, n4⟩
      match os, hne, n2, n3, n4, hD, q, lo with
      | [some a], _, _, _, h0, hD, q, _ =>
        have h0 : ¬ a = 0 := by simpa using h0
        have e : szN [some a] = some ((a : Int), 1) := if_neg h0
        rw [e] at q
        refine ⟨_, rfl, D, _, rfl, .inl (SqL.of hD), rfl, _, rfl, ?_⟩
        refine iteT ?_
        exact ⟨_, rfl, D, _, 0, .int (a : Int), rfl, rfl, SqL.of hD, rfl, (by show 2 ≤ sizeLine; decide), fun p np => q p _ (s01.trans (same_upd np)) (s01.free np) upd_same⟩
      | [some a, some b], _, _, _, h0, hD, q, _ =>
        have h0 : ¬ (a = 0 ∨ b = 0) := by simpa using h0
        have e : szN [some a, some b] = if 1 < b ∧ Nat.gcd a b = 1 then some ((a : Int), (b : Int)) else none := if_neg h0
        rw [e] at q
        refine ⟨_, rfl, D, _, rfl, .inl (SqL.of hD), rfl, _, rfl, ?_⟩
        refine iteF ?_
        refine ⟨_, rfl, D, _, 1, .int (b : Int), rfl, rfl, SqL.of hD, rfl, (b : Int), 1, rfl, rfl, _, rfl, ?_⟩
        refine ite2 (fun c => ?_) (fun c => ?_)
        · have c : (1 : Int) < (b : Int) := of_decide_eq_true c
          refine ⟨_, rfl, D, _, 0, .int (a : Int), rfl, rfl, SqL.of hD, rfl, _, rfl, D, _, 1, .int (b : Int), rfl, rfl, SqL.of hD, rfl, (a : Int), (b : Int), rfl, ?_⟩
          refine ⟨rfl, _, rfl, ?_⟩
          have eg : Int.gcd (a : Int) (b : Int) = Nat.gcd a b := rfl
          rw [eg]
          refine ite2 (fun c2 => ?_) (fun c2 => ?_)
          · have c2 : Nat.gcd a b = 1 := by
              have : ((Nat.gcd a b : Nat) : Int) = 1 := by simpa using c2
              omega
            rw [if_pos ⟨by omega, c2⟩] at q
            exact ⟨_, rfl, D, _, 0, .int (a : Int), rfl, rfl, SqL.of hD, rfl, _, rfl, D, _, 1, .int (b : Int), rfl, rfl, SqL.of hD, rfl, (by show 2 ≤ sizeLine; decide), fun p np => q p _ (s01.trans (same_upd np)) (s01.free np) upd_same⟩
          · have c2 : ¬ Nat.gcd a b = 1 := fun y => c2 (decide_eq_true (by rw [y]; rfl))
            rw [if_neg (fun y => c2 y.2)] at q
            exact q _ s01
        · have c : ¬ (1 : Int) < (b : Int) := fun y => c (decide_eq_true y)
          rw [if_neg (fun y => by omega)] at q
          exact q _ s01
      | [none], _, _, h, _, _, _, _ => simp at h
      | [none, _], _, _, h, _, _, _, _ => simp at h
      | [some a, none], _, _, h, _, _, _, _ => simp at h
      | a :: b :: d :: r, _, h, _, _, _, _, _ => exact absurd (show 2 < (a :: b :: d :: r).length by simp) h
end
end Nm

/-! The law's _law_e_read, _law_piece_read. -/
namespace Nm
open PySem PySem.Spec PyProof.Rows L2 LamX TL
abbrev sPieceR : Stmt := topS 61
theorem eR_alt (w : Sg) : eR w = if w.take 3 = [101, 94, 40] ∧ w.getLast? = some 41 then rateOf (szR (if ((w.drop 3).dropLast).head? = some 45 then ((w.drop 3).dropLast).tail else (w.drop 3).dropLast)) (decide (((w.drop 3).dropLast).head? = some 45)) else none := by
  unfold eR
  split
  · rename_i r
    have e3 : (101 :: 94 :: 40 :: r).take 3 = [101, 94, 40] := rfl
    have ed : (101 :: 94 :: 40 :: r).drop 3 = r := rfl
    have el : ((101 :: 94 :: 40 :: r).getLast? = some 41) ↔ r.getLast? = some 41 := by
      cases r with
      | nil => simp
      | cons a x => rw [List.getLast?_cons_cons, List.getLast?_cons_cons, List.getLast?_cons_cons]
    rw [ed]
    by_cases h : r.getLast? = some 41
    · rw [if_pos h, if_pos ⟨e3, el.mpr h⟩]
      split
      · rename_i z ez
        rw [ez]
        rfl
      · rename_i z hz
        have : ¬ r.dropLast.head? = some 45 := fun e => by
          cases ez : r.dropLast with
          | nil => rw [ez] at e; cases e
          | cons a x =>
            rw [ez] at e
            injection e with e
            exact hz x (by rw [ez, e])
        rw [if_neg this, decide_eq_false this]
    · rw [if_neg h, if_neg (fun y => h (el.mp y.2))]
  · rename_i h
    rw [if_neg]
    rintro ⟨e, _⟩
    match w, e with
    | a :: b :: c :: r, e =>
      simp only [List.take_succ_cons, List.take_zero, List.cons.injEq, and_true] at e
      obtain ⟨rfl, rfl, rfl⟩ := e
      exact h r rfl
def ZAt (H0 G : Hp) (v : V) : Option (Int × Int) → Prop
  | none => v = .non
  | some c => ∃ p, v = .ref p ∧ H0 p = none ∧ G p = some (.tup [.int c.1, .int c.2])
theorem ZAt.same {H0 G G' : Hp} {v : V} {o : Option (Int × Int)} (s : Same G G') (h : ZAt H0 G v o) : ZAt H0 G' v o := by
  cases o with
  | none => exact h
  | some c =>
    obtain ⟨p, e, n, h⟩ := h
    exact ⟨p, e, n, s _ _ h⟩
theorem ZAt.down {H0 H1 G : Hp} {v : V} {o : Option (Int × Int)} (s : Same H0 H1) (h : ZAt H1 G v o) : ZAt H0 G v o := by
  cases o with
  | none => exact h
  | some c =>
    obtain ⟨p, e, n, h⟩ := h
    exact ⟨p, e, s.free n, h⟩
theorem RdQ.of {H : Hp} {Q : VK} {o : Option (Int × Int)} (h : ∀ v H', Same H H' → ZAt H H' v o → Q v H') : RdQ H Q o := by
  cases o with
  | none => exact fun H' s => h _ _ s rfl
  | some c => exact fun p H' s np hp => h _ _ s ⟨p, rfl, np, hp⟩
section
variable {P : Program} {w : World} {K : PySem.W.Frag} {mg : Str → Option Value} {base : Heap}
structure LeT (P : Program) (w : World) (K : PySem.W.Frag) (mg : Str → Option Value) (base : Heap) where
  fS : Addr
  fdS : FuncData
  FS : FnOk P w K mg base CX0 2 fS fdS ["_law_word_here"] spLSz
  bS : Binds K fdS ["_law_word_here"] []
  gS : mg "_law_size_read" = some (.ref fS)
  kS : PySem.W.keepIn K (.ref fS) = true
def spLE : Sp := fun vs H Q _ => ∃ z : Str, vs = [.str z] ∧ z.length ≤ 1000000 ∧ RdQ H Q (eR (tl z))
theorem scLE : FnScope ["_law_word_here", "_law_inner", "_law_size"] ["_law_word_here"] (defScope sER) := ⟨rfl, rfl, rfl, by decide +kernel, rfl, by decide +kernel, by decide +kernel⟩
theorem last_drop (l : Sg) : l.drop (l.length - 1) = [41] ↔ l.getLast? = some 41 := by
  cases l with
  | nil => simp
  | cons a r =>
    have hn : (a :: r) ≠ [] := by simp
    rw [List.getLast?_eq_some_getLast hn]
    have z := List.dropLast_concat_getLast hn
    have l1 : (a :: r).length - 1 = (a :: r).dropLast.length := by rw [List.length_dropLast]
    have e2 : (a :: r).drop ((a :: r).length - 1) = [(a :: r).getLast hn] := by
      rw [l1]
      conv => lhs; rw [← z]
      rw [List.dropLast_concat, List.drop_left]
    rw [e2]
    simp
theorem ok_le {f : Addr} {fd : FuncData} (F : Fun K "_law_e_read" "_law_e_read" sER f fd) (U : LeT P w K mg base) : FnOk P w K mg base CX0 3 f fd ["_law_word_here"] spLE := by
  refine F.ok scLE (fun vs H Q E h => ?_) (fun cdv A outer s H vs Q E hr h => ?_)
  · obtain ⟨z, rfl, _⟩ := h
    rfl
  · obtain ⟨z, rfl, hz, q⟩ := h
    refine ⟨_, pss_cut (ps_if (PW.pt (pw_or (pt_cmpR op_ne (pe_slice sl_str (pv 0) po_none (po_some pe_int)) pe_str (nomark _)) (pw_or1 (pt_cmpR op_ne (pe_slice sl_str (pv 0) (po_some (pe_un un_neg pe_int)) po_none) pe_str (nomark _))))) (pss_one (ps_ret pe_non)) pss_nil)
      (pss_cons (ps_set (i := 1) scLE.nd rfl (.inl rfl) (pe_slice sl_str (pv 0) (po_some pe_int) (po_some (pe_un un_neg pe_int))))
      (pss_cut (ps_set (i := 2) scLE.nd rfl (.inl rfl) (pe_call U.FS hr (by rfl) U.gS U.kS U.bS .nil pass0 (pa_cons (pe_ifExp (pt_cmpR op_eq (pe_slice sl_str (pv 1) po_none (po_some pe_int)) pe_str (nomark _)) (pe_slice sl_str (pv 1) (po_some pe_int) po_none) (pv 1)) pa_nil)))
      (pss_cut (ps_if (PW.pt (pw_or (pt_cmpR op_isN (pv 2) pe_non (nomark _)) (pw_or (pt_cmpR op_gt (pe_ix ix_tup (pv 2) pe_int (fun _ _ => rfl)) pe_int (nomark _)) (pw_or1 (pt_cmpR op_gt (pe_ix ix_tup (pv 2) pe_int (fun _ _ => rfl)) (pe_op op_mul pe_int (pe_ix ix_tup (pv 2) pe_int (fun _ _ => rfl))) (nomark _)))))) (pss_one (ps_ret pe_non)) pss_nil)
      (pss_one (ps_ret (pe_ifExp (pt_cmpR op_eq (pe_slice sl_str (pv 1) po_none (po_some pe_int)) pe_str (nomark _)) (pe_tup (pa_cons (pe_un un_neg (pe_ix ix_tup (pv 2) pe_int (fun _ _ => rfl))) (pa_cons (pe_ix ix_tup (pv 2) pe_int (fun _ _ => rfl)) pa_nil))) (pv 2))))))), ?_⟩
    have hsz := size_ok hz
    rw [eR_alt] at q
    have c3 : tl (cutS z none (some 3)) = (tl z).take 3 := cut_to z 3
    have tE : tl (Str.ofString "e^(") = [101, 94, 40] := rfl
    have tP : tl (Str.ofString ")") = [41] := rfl
    have tM : tl (Str.ofString "-") = [45] := rfl
    refine ⟨fun σ G => σ = [some (.str z), none, none] ∧ G = H ∧ (tl z).take 3 = [101, 94, 40] ∧ (tl z).getLast? = some 41, ?_, ?_⟩
    · refine ⟨_, rfl, 3, rfl, z, rfl, hsz, rfl, _, rfl, ?_⟩
      rw [str_dec, c3, tE]
      by_cases h1 : (tl z).take 3 = [101, 94, 40]
      · rw [decide_eq_true h1]
        refine iteF ?_
        refine ⟨_, rfl, 1, rfl, -1, rfl, z, rfl, hsz, rfl, _, rfl, ?_⟩
        rw [str_dec, cut_end, tP]
        by_cases h2 : (tl z).getLast? = some 41
        · rw [decide_eq_true ((last_drop _).mpr h2)]
          exact iteF ⟨rfl, rfl, h1, h2⟩
        · rw [decide_eq_false (fun y => h2 ((last_drop _).mp y))]
          refine iteT ?_
          rw [if_neg (fun y => h2 y.2)] at q
          exact q H (Same.refl _)
      · rw [decide_eq_false h1]
        refine iteT ?_
        rw [if_neg (fun y => h1 y.1)] at q
        exact q H (Same.refl _)
    rintro σ G ⟨rfl, rfl, h1, h2⟩
    rw [if_pos ⟨h1, h2⟩] at q
    refine ⟨_, rfl, 3, rfl, 1, rfl, -1, rfl, z, rfl, hsz, ?_⟩
    have ei : tl (cutS z (some 3) (some (-1))) = ((tl z).drop 3).dropLast := cut_in z
    have li : (cutS z (some 3) (some (-1))).length ≤ 1000000 := Nat.le_trans (cutS_length _ _ _) hz
    generalize cutS z (some 3) (some (-1)) = inn at *
    rw [← ei] at q
    have c1 : tl (cutS inn none (some 1)) = (tl inn).take 1 := cut_to inn 1
    have c1' : ((tl inn).take 1 = [45]) ↔ (tl inn).head? = some 45 := by
      cases tl inn with
      | nil => simp
      | cons a r => simp
    refine ⟨fun σ G2 => ∃ v, σ = [some (.str z), some (.str inn), some v] ∧ Same G G2 ∧ ZAt G G2 v (szR (if (tl inn).head? = some 45 then (tl inn).tail else tl inn)), ?_, ?_⟩
    · refine ⟨_, rfl, 1, rfl, inn, rfl, size_ok li, rfl, _, rfl, ?_⟩
      rw [str_dec, c1, tM]
      by_cases h : (tl inn).head? = some 45
      · rw [decide_eq_true (c1'.mpr h), if_pos h]
        refine iteT ?_
        refine ⟨_, rfl, 1, rfl, inn, rfl, size_ok li, cutS inn (some 1) none, rfl, Nat.le_trans (cutS_length _ _ _) li, ?_⟩
        have e : tl (cutS inn (some 1) none) = (tl inn).drop 1 := cut_from inn 1
        rw [e, List.drop_one]
        exact RdQ.of fun v G2 s2 zv => ⟨v, rfl, s2, zv⟩
      · rw [decide_eq_false (fun y => h (c1'.mp y)), if_neg h]
        refine iteF ?_
        exact ⟨_, rfl, inn, rfl, li, RdQ.of fun v G2 s2 zv => ⟨v, rfl, s2, zv⟩⟩
    rintro σ G2 ⟨v, rfl, s2, zv⟩
    generalize szR (if (tl inn).head? = some 45 then (tl inn).tail else tl inn) = so at *
    cases so with
    | none =>
      obtain rfl : v = .non := zv
      exact ⟨fun _ _ => False, ⟨_, rfl, rfl, _, rfl, iteT (q _ s2)⟩, fun _ _ h => h.elim⟩
    | some c =>
      obtain ⟨p, rfl, np, hp⟩ := zv
      have er : ∀ b, rateOf (some c) b = if c.2 > 4 ∨ c.1 > 4 * c.2 then none else some (if b then (-c.1, c.2) else c) := fun b => rfl
      rw [er] at q
      refine ⟨fun σ G3 => σ = [some (.str z), some (.str inn), some (.ref p)] ∧ G3 = G2 ∧ ¬ (c.2 > 4 ∨ c.1 > 4 * c.2), ?_, ?_⟩
      · refine ⟨_, rfl, rfl, _, rfl, iteF ?_⟩
        refine ⟨_, rfl, p, _, 1, .int c.2, rfl, rfl, SqT.of hp, rfl, c.2, 4, rfl, rfl, _, rfl, ?_⟩
        refine ite2 (fun y => ?_) (fun y => ?_)
        · have y : 4 < c.2 := of_decide_eq_true y
          rw [if_pos (.inl y)] at q
          exact q _ s2
        · have y : ¬ 4 < c.2 := fun x => y (decide_eq_true x)
          refine ⟨_, rfl, p, _, 0, .int c.1, rfl, rfl, SqT.of hp, rfl, _, rfl, p, _, 1, .int c.2, rfl, rfl, SqT.of hp, rfl, 4, c.2, rfl, rfl, .inl (by decide), c.1, 4 * c.2, rfl, rfl, _, rfl, ?_⟩
          refine ite2 (fun y2 => ?_) (fun y2 => ?_)
          · have y2 : 4 * c.2 < c.1 := of_decide_eq_true y2
            rw [if_pos (.inr y2)] at q
            exact q _ s2
          · have y2 : ¬ 4 * c.2 < c.1 := fun x => y2 (decide_eq_true x)
            exact ⟨rfl, rfl, fun x => x.elim y y2⟩
      rintro σ G3 ⟨rfl, rfl, no⟩
      rw [if_neg no] at q
      refine ⟨_, rfl, 1, rfl, inn, rfl, size_ok li, rfl, _, rfl, ?_⟩
      rw [str_dec, c1, tM]
      by_cases h : (tl inn).head? = some 45
      · rw [decide_eq_true (c1'.mpr h)]
        rw [decide_eq_true h] at q
        refine iteT ?_
        exact ⟨_, rfl, p, _, 0, .int c.1, rfl, rfl, SqT.of hp, rfl, c.1, rfl, _, rfl, p, _, 1, .int c.2, rfl, rfl, SqT.of hp, rfl, (by show 2 ≤ sizeLine; decide), fun p2 np2 => q p2 _ (s2.trans (same_upd np2)) (s2.free np2) upd_same⟩
      · rw [decide_eq_false (fun y => h (c1'.mp y))]
        rw [decide_eq_false h] at q
        refine iteF ?_
        exact ⟨_, rfl, q p _ s2 np hp⟩
/-! ### _law_piece_read -/
structure LpcT (P : Program) (w : World) (K : PySem.W.Frag) (mg : Str → Option Value) (base : Heap) extends LeT P w K mg base where
  fP : Addr
  fdP : FuncData
  fE : Addr
  fdE : FuncData
  FP : FnOk P w K mg base CX0 1 fP fdP ["_law_word_here"] spPow
  FE : FnOk P w K mg base CX0 3 fE fdE ["_law_word_here"] spLE
  bP : Binds K fdP ["_law_word_here"] []
  bE : Binds K fdE ["_law_word_here"] []
  gP : mg "_law_power_read" = some (.ref fP)
  gE : mg "_law_e_read" = some (.ref fE)
  kP : PySem.W.keepIn K (.ref fP) = true
  kE : PySem.W.keepIn K (.ref fE) = true
/-- what reading a piece tells: None, or a new term whose parts are new -/
def spLPiece (K : PySem.W.Frag) : Sp := fun vs H Q _ => ∃ (z : Str) (b : Bool), vs = [.str z, .bl b] ∧ z.length ≤ 100000 ∧ RtQ K H Q ((lawP (tl z)).map (sg4 b))
theorem scLPiece : FnScope ["_law_piece", "_law_is_below", "_law_words", "_law_size", "_law_behind", "_law_k", "_law_q_here"] ["_law_piece", "_law_is_below"] (defScope sPieceR) := ⟨rfl, rfl, rfl, by decide +kernel, rfl, by decide +kernel, by decide +kernel⟩
theorem zat_dp {H0 G : Hp} {v : V} {o : Option (Int × Int)} (h : ZAt H0 G v o) : Dp K G v (cD o) := by
  cases o with
  | none =>
    obtain rfl : v = .non := h
    exact .non
  | some c =>
    obtain ⟨p, rfl, _, h⟩ := h
    exact .tup (SqT.of h) (.cons (.int _) (.cons (.int _) .nil))
theorem eqv_c (o : Option (Int × Int)) (t u : Int) : PyData.eqv (cD o) (.tuple [.int t, .int u]) = decide (o = some (t, u)) := by
  cases o with
  | none => rfl
  | some c =>
    have z := eqv_pair (t := c.1) (u := c.2) (t' := t) (u' := u)
    by_cases h : c.1 = t ∧ c.2 = u
    · have : some c = some (t, u) := by rw [← h.1, ← h.2]
      rw [decide_eq_true this]
      exact z.mpr h
    · have : ¬ some c = some (t, u) := fun e => by
        injection e with e
        exact h ⟨by rw [e], by rw [e]⟩
      rw [decide_eq_false this]
      cases e : PyData.eqv (.tuple [.int c.1, .int c.2]) (.tuple [.int t, .int u]) with
      | false => exact e
      | true => exact absurd (z.mp e) h
theorem sh_c (o : Option (Int × Int)) : SeqAt.shaped (cD o) = true := by cases o <;> rfl
theorem emp_tl {ws : List Str} {L : List Sg} (h : ws.map tl = L) : (!(ws.map V.str).isEmpty) = decide (L ≠ []) := by
  subst h
  cases ws with
  | nil => rfl
  | cons x r => simp
theorem ok_lpiece {f : Addr} {fd : FuncData} (F : Fun K "_law_piece_read" "_law_piece_read" sPieceR f fd) (U : LpcT P w K mg base) : FnOk P w K mg base CX0 4 f fd ["_law_piece", "_law_is_below"] (spLPiece K) := by
  refine F.ok scLPiece (fun vs H Q E h => ?_) (fun cdv A outer s H vs Q E hr h => ?_)
  · obtain ⟨z, b, rfl, _⟩ := h
    rfl
  · obtain ⟨z, b, rfl, hz, q⟩ := h
    have hr1 : Room 1 _ := hr.mono (by decide)
    have hr2 : Room 2 _ := hr.mono (by decide)
    refine ⟨_, pss_cons (ps_set (i := 2) scLPiece.nd rfl (.inl rfl) (pe_split (pv 0) pe_str))
      (pss_cut (ps_set (i := 3) scLPiece.nd rfl (.inl rfl) (pe_call U.FS hr2 (by rfl) U.gS U.kS U.bS .nil pass0 (pa_cons (pe_ix ix_list (pv 2) pe_int (fun _ _ => rfl)) pa_nil)))
      (pss_cut (ps_set (i := 4) scLPiece.nd rfl (.inl rfl) (pe_ifExp (pt_cmpR op_notN (pv 3) pe_non (nomark _)) (pe_slice sl_list (pv 2) (po_some pe_int) po_none) (pv 2)))
      (pss_cut (ps_if (PW.pt (pw_and (pt_cmpR (op_eqD hr.units) (pv 3) (pe_tup (pa_cons pe_int (pa_cons pe_int pa_nil))) (nomark _)) (pw_and1 (pt_cmpR (op_neNil hr.units) (pv 4) (pe_lst pa_nil) (nomark _))))) (pss_one (ps_ret pe_non)) pss_nil)
      (pss_cut (ps_if (pt_cmpR op_isN (pv 3) pe_non (nomark _)) (pss_one (ps_set (i := 3) scLPiece.nd rfl (.inl rfl) (pe_tup (pa_cons pe_int (pa_cons pe_int pa_nil))))) pss_nil)
      (pss_cons (ps_asg (pe_tup (pa_cons pe_int (pa_cons (pe_tup (pa_cons pe_int (pa_cons pe_int pa_nil))) pa_nil))) (pg_tup (by rfl) (pgs_cons (pg_name (i := 5) scLPiece.nd rfl (.inl rfl)) (pgs_cons (pg_name (i := 6) scLPiece.nd rfl (.inl rfl)) pgs_nil))))
      (pss_cut (ps_if (PW.pt (pw_and (pt_cmpR (op_neNil hr.units) (pv 4) (pe_lst pa_nil) (nomark _)) (pw_and1 (pt_cmpR op_notN (pe_call U.FP hr1 (by rfl) U.gP U.kP U.bP .nil pass0 (pa_cons (pe_ix ix_list (pv 4) pe_int (fun _ _ => rfl)) pa_nil)) pe_non (nomark _)))))
        (pss_one (ps_par (i := 5) (j := 4) (by rfl) scLPiece.nd rfl rfl (by decide) rfl rfl (pa_cons (pe_call U.FP hr1 (by rfl) U.gP U.kP U.bP .nil pass0 (pa_cons (pe_ix ix_list (pv 4) pe_int (fun _ _ => rfl)) pa_nil)) (pa_cons (pe_slice sl_list (pv 4) (po_some pe_int) po_none) pa_nil)) (by rfl))) pss_nil)
      (pss_cut (ps_if (PW.pt (pw_and (pt_cmpR (op_neNil hr.units) (pv 4) (pe_lst pa_nil) (nomark _)) (pw_and1 (pt_cmpR op_notN (pe_call U.FE hr (by rfl) U.gE U.kE U.bE .nil pass0 (pa_cons (pe_ix ix_list (pv 4) pe_int (fun _ _ => rfl)) pa_nil)) pe_non (nomark _)))))
        (pss_one (ps_par (i := 6) (j := 4) (by rfl) scLPiece.nd rfl rfl (by decide) rfl rfl (pa_cons (pe_call U.FE hr (by rfl) U.gE U.kE U.bE .nil pass0 (pa_cons (pe_ix ix_list (pv 4) pe_int (fun _ _ => rfl)) pa_nil)) (pa_cons (pe_slice sl_list (pv 4) (po_some pe_int) po_none) pa_nil)) (by rfl))) pss_nil)
      (pss_cut (ps_if (PW.pt (pw_or (pt_cmpR (op_neNil hr.units) (pv 4) (pe_lst pa_nil) (nomark _)) (pw_or (pt_cmpR op_eq (pe_ix ix_list (pv 2) pe_int (fun _ _ => rfl)) pe_str (nomark _)) (pw_or1 (PW.pt (pw_and (pt_cmpR (op_eqD hr.units) (pv 3) (pe_tup (pa_cons pe_int (pa_cons pe_int pa_nil))) (nomark _))
          (pw_and (pt_cmpR op_eq (pv 5) pe_int (nomark _)) (pw_and (pt_cmpR (op_eqD hr.units) (pv 6) (pe_tup (pa_cons pe_int (pa_cons pe_int pa_nil))) (nomark _)) (pw_and1 (pt_cmpR op_ne (pv 0) pe_str (nomark _)))))))))))
        (pss_one (ps_ret pe_non)) pss_nil)
      (pss_one (ps_ret (pe_tup (pa_cons (pe_ifExp (pt_val (pv 1)) (pe_tup (pa_cons (pe_un un_neg (pe_ix ix_tup (pv 3) pe_int (fun _ _ => rfl))) (pa_cons (pe_ix ix_tup (pv 3) pe_int (fun _ _ => rfl)) pa_nil))) (pv 3)) (pa_cons (pv 5) (pa_cons (pv 6) pa_nil)))))))))))))), ?_⟩
    have hbl := len_s z
    refine ⟨_, rfl, ⟨_, rfl⟩, _, _, rfl, rfl, rfl, size_ok (by omega), fun l nl => ?_⟩
    have sp : (Txt.split z " ").map tl = spl [32] 0 [] (tl z) := split_spl z " " (by show ([32] : Sg) ≠ []; simp) (kind_ok (by decide +kernel))
    obtain ⟨ws, ews⟩ : ∃ ws, ws = Txt.split z " " := ⟨_, rfl⟩
    rw [← ews] at sp
    generalize eH1 : L2.upd H l _ = H1
    have s1 : Same H H1 := by rw [← eH1]; exact same_upd nl
    have hl1 : H1 l = some (.lst (ws.map V.str)) := by rw [← eH1, upd_same, ews]
    have hwl : ∀ y ∈ ws, y.length ≤ 1000000 := fun y hy => by
      have hm : tl y ∈ spl [32] 0 [] (tl z) := by rw [← sp]; exact List.mem_map_of_mem hy
      have := spl_len _ _ _ hm
      rw [List.length_nil] at this
      rw [len_s]
      omega
    obtain ⟨z0, zr, rfl⟩ : ∃ z0 zr, ws = z0 :: zr := by
      cases ws with
      | nil => exact absurd sp.symm (spl_ne _ _ _ _)
      | cons a r => exact ⟨a, r, rfl⟩
    have hz0 := hwl z0 List.mem_cons_self
    have q : RtQ K H Q ((lawW (tl z) (tl z0) (zr.map tl)).map (sg4 b)) := by
      have e : lawP (tl z) = lawW (tl z) (tl z0) (zr.map tl) := by
        unfold lawP
        rw [← sp]
        rfl
      rw [← e]
      exact q
    have at0 : ∀ (y : Str) (ys : List Str), atI ((y :: ys).map V.str) 0 = some (.str y) := fun y ys => atI_nat (j := 0) rfl
    clear eH1 ews
    -- the size
    refine ⟨fun σ G => ∃ v, σ = [some (.str z), some (.bl b), some (.ref l), some v, none, none, none] ∧ Same H1 G ∧ ZAt H G v (szR (tl z0)), ?_, ?_⟩
    · exact ⟨_, rfl, l, _, 0, .str z0, rfl, rfl, SqL.of hl1, at0 z0 zr, z0, rfl, hz0, RdQ.of fun v G s2 zv => ⟨v, rfl, s2, zv.down s1⟩⟩
    rintro σ G ⟨v, rfl, s2, zv⟩
    have hlG := s2 _ _ hl1
    -- behind
    refine ⟨fun σ G2 => ∃ (lb : Addr) (bs : List Str), σ = [some (.str z), some (.bl b), some (.ref l), some v, some (.ref lb), none, none] ∧ Same G G2 ∧ G2 lb = some (.lst (bs.map V.str)) ∧ bs.map tl = behR (tl z0) (zr.map tl) ∧ (∀ y ∈ bs, y.length ≤ 1000000), ?_, ?_⟩
    · refine ⟨_, rfl, rfl, _, rfl, ?_⟩
      cases es : szR (tl z0) with
      | none =>
        rw [es] at zv
        obtain rfl : v = .non := zv
        refine iteF ?_
        refine ⟨_, rfl, l, z0 :: zr, rfl, Same.refl _, hlG, ?_, hwl⟩
        unfold behR
        rw [es]
        rfl
      | some c =>
        rw [es] at zv
        obtain ⟨p, rfl, np, hp⟩ := zv
        refine iteT ?_
        refine ⟨_, rfl, 1, rfl, l, _, rfl, SqL.of hlG, fun p2 np2 => ?_⟩
        have e1 : cutV ((z0 :: zr).map V.str) (some 1) none = zr.map V.str := by
          have := cutV_from ((z0 :: zr).map V.str) 1
          exact this
        rw [e1]
        refine ⟨p2, zr, rfl, same_upd np2, upd_same, ?_, fun y hy => hwl y (List.mem_cons_of_mem _ hy)⟩
        unfold behR
        rw [es]
        rfl
    rintro σ G2 ⟨lb, bs, rfl, s3, hb, eb, hbl2⟩
    have zv2 := zv.same s3
    have hl2 := s3 _ _ hlG
    -- a size of 1 with something behind it
    refine ⟨fun σ G3 => σ = [some (.str z), some (.bl b), some (.ref l), some v, some (.ref lb), none, none] ∧ Same G2 G3 ∧ ¬ (szR (tl z0) = some (1, 1) ∧ zr.map tl ≠ []), ?_, ?_⟩
    · refine ⟨_, rfl, (by show 2 ≤ sizeLine; decide), fun p np => ?_⟩
      have s4 : Same G2 (L2.upd G2 p (.tup [.int 1, .int 1])) := same_upd np
      have hp : L2.upd G2 p (.tup [.int 1, .int 1]) p = some (.tup [.int 1, .int 1]) := upd_same
      generalize L2.upd G2 p (.tup [.int 1, .int 1]) = G3 at *
      refine ⟨_, _, zat_dp (zv2.same s4), dp_pair (SqT.of hp), sh_c _, rfl, _, rfl, ?_⟩
      rw [eqv_c]
      by_cases e1 : szR (tl z0) = some (1, 1)
      · rw [decide_eq_true e1]
        refine iteT ?_
        refine ⟨_, rfl, Nat.zero_le _, fun p2 np2 => ?_⟩
        have s5 : Same G3 (L2.upd G3 p2 (.lst [])) := same_upd np2
        have hp2 : L2.upd G3 p2 (.lst []) p2 = some (.lst []) := upd_same
        generalize L2.upd G3 p2 (.lst []) = G4 at *
        refine ⟨lb, p2, _, rfl, rfl, SqL.of ((s4.trans s5) _ _ hb), SqL.of hp2, _, rfl, ?_⟩
        rw [emp_tl eb]
        have ebr : behR (tl z0) (zr.map tl) = zr.map tl := by unfold behR; rw [e1]; rfl
        rw [ebr]
        by_cases e2 : zr.map tl ≠ []
        · rw [decide_eq_true e2]
          refine iteT ?_
          unfold lawW at q
          rw [if_pos ⟨e1, e2⟩] at q
          exact q _ (s1.trans (s2.trans (s3.trans (s4.trans s5))))
        · rw [decide_eq_false e2]
          exact iteF ⟨rfl, s4.trans s5, fun y => e2 y.2⟩
      · rw [decide_eq_false e1]
        exact iteF ⟨rfl, s4, fun y => e1 y.1⟩
    rintro σ G3 ⟨rfl, s4, no1⟩
    unfold lawW at q
    rw [if_neg no1] at q
    have zv3 := zv2.same s4
    have hb3 := s4 _ _ hb
    have hl3 := s4 _ _ hl2
    -- the size that is left out
    refine ⟨fun σ G4 => ∃ p, σ = [some (.str z), some (.bl b), some (.ref l), some (.ref p), some (.ref lb), none, none] ∧ Same G3 G4 ∧ ZAt H G4 (.ref p) (some ((szR (tl z0)).getD (1, 1))), ?_, ?_⟩
    · refine ⟨_, rfl, rfl, _, rfl, ?_⟩
      cases es : szR (tl z0) with
      | none =>
        rw [es] at zv3
        obtain rfl : v = .non := zv3
        refine iteT ?_
        exact ⟨(by show 2 ≤ sizeLine; decide), fun p np => ⟨p, rfl, same_upd np, p, rfl, (s1.trans (s2.trans (s3.trans s4))).free np, upd_same⟩⟩
      | some c =>
        rw [es] at zv3
        obtain ⟨p, rfl, np, hp⟩ := zv3
        refine iteF ?_
        exact ⟨p, rfl, Same.refl _, p, rfl, np, hp⟩
    rintro σ G4 ⟨ps, rfl, s5, zv4⟩
    generalize (szR (tl z0)).getD (1, 1) = sz at *
    have hb4 := s5 _ _ hb3
    have hl4 := s5 _ _ hl3
    have s04 := s1.trans (s2.trans (s3.trans (s4.trans s5)))
    refine ⟨(by show 2 ≤ sizeLine; decide), fun pq npq => ?_⟩
    have s6 : Same G4 (L2.upd G4 pq (.tup [.int 0, .int 1])) := same_upd npq
    have hpq : L2.upd G4 pq (.tup [.int 0, .int 1]) pq = some (.tup [.int 0, .int 1]) := upd_same
    generalize L2.upd G4 pq (.tup [.int 0, .int 1]) = G45 at *
    refine ⟨(by show 2 ≤ sizeLine; decide), fun pt npt => ?_⟩
    have s6' : Same G45 (L2.upd G45 pt (.tup [.int 0, .ref pq])) := same_upd npt
    have hpt : L2.upd G45 pt (.tup [.int 0, .ref pq]) pt = some (.tup [.int 0, .ref pq]) := upd_same
    have hpq := s6' _ _ hpq
    have s6 := s6.trans s6'
    generalize L2.upd G45 pt (.tup [.int 0, .ref pq]) = G5 at *
    have s05 := s04.trans s6
    have nq0 := s04.free npq
    have zv5 := zv4.same s6
    have hb5 := s6 _ _ hb4
    have hl5 := s6 _ _ hl4
    refine ⟨pt, _, rfl, SqT.of hpt, rfl, _, _, rfl, _, _, rfl, rfl, ?_⟩
    generalize behR (tl z0) (zr.map tl) = W1 at *
    clear zv zv2 zv3 zv4 hb hb3 hb4 hl1 hlG hl2 hl3 hl4 s2 s3 s4 s5 s6
    -- the power
    refine ⟨fun σ G6 => ∃ (lb : Addr) (bs : List Str), σ = [some (.str z), some (.bl b), some (.ref l), some (.ref ps), some (.ref lb), some (.int (takeK W1).1), some (.ref pq)] ∧ Same G5 G6 ∧ G6 lb = some (.lst (bs.map V.str)) ∧ bs.map tl = (takeK W1).2 ∧ (∀ y ∈ bs, y.length ≤ 1000000), ?_, ?_⟩
    · refine ⟨_, rfl, Nat.zero_le _, fun p2 np2 => ?_⟩
      have s7 : Same G5 (L2.upd G5 p2 (.lst [])) := same_upd np2
      have hp2 : L2.upd G5 p2 (.lst []) p2 = some (.lst []) := upd_same
      generalize L2.upd G5 p2 (.lst []) = G6 at *
      have hb6 := s7 _ _ hb5
      refine ⟨lb, p2, _, rfl, rfl, SqL.of hb6, SqL.of hp2, _, rfl, ?_⟩
      cases bs with
      | nil =>
        refine iteF ?_
        have eW : W1 = [] := eb.symm
        subst eW
        exact ⟨lb, [], rfl, s7, hb6, rfl, hbl2⟩
      | cons y ys =>
        refine iteT ?_
        have eW : W1 = tl y :: ys.map tl := eb.symm
        have hy := hbl2 y List.mem_cons_self
        refine ⟨_, rfl, lb, _, 0, .str y, rfl, rfl, SqL.of hb6, at0 y ys, y, rfl, hy, fun G7 s8 => ⟨rfl, _, rfl, ?_⟩⟩
        cases ep : powR (tl y) with
        | none =>
          refine iteF ?_
          have ek : takeK W1 = (0, W1) := by rw [eW]; unfold takeK; dsimp only; rw [ep]
          rw [ek]
          exact ⟨lb, y :: ys, rfl, s7.trans s8, s8 _ _ hb6, eb, hbl2⟩
        | some k =>
          refine iteT ?_
          have ek : takeK W1 = (k, ys.map tl) := by rw [eW]; unfold takeK; dsimp only; rw [ep]
          rw [ek]
          have hb7 := s8 _ _ hb6
          refine ⟨_, rfl, lb, _, 0, .str y, rfl, rfl, SqL.of hb7, at0 y ys, y, rfl, hy, fun G8 s9 => ?_⟩
          rw [ep]
          have hb8 := s9 _ _ hb7
          refine ⟨_, rfl, 1, rfl, lb, _, rfl, SqL.of hb8, fun p3 np3 => ?_⟩
          have e1 : cutV ((y :: ys).map V.str) (some 1) none = ys.map V.str := cutV_from ((y :: ys).map V.str) 1
          rw [e1]
          exact ⟨_, _, rfl, p3, ys, rfl, s7.trans (s8.trans (s9.trans (same_upd np3))), upd_same, rfl, fun x hx => hbl2 x (List.mem_cons_of_mem _ hx)⟩
    rintro σ G6 ⟨lb2, bs2, rfl, s7, hb6, eb2, hbl3⟩
    have s06 := s05.trans s7
    have zv6 := zv5.same s7
    have hq6 := s7 _ _ hpq
    have hl6 := s7 _ _ hl5
    clear hb5 eb hbl2 hl5 hpq hpt zv5
    generalize (takeK W1).1 = k at *
    generalize (takeK W1).2 = W2 at *
    -- the rate
    refine ⟨fun σ G7 => ∃ (lb : Addr) (bs : List Str) (pq : Addr), σ = [some (.str z), some (.bl b), some (.ref l), some (.ref ps), some (.ref lb), some (.int k), some (.ref pq)] ∧ Same G6 G7 ∧ G7 lb = some (.lst (bs.map V.str)) ∧ bs.map tl = (takeQ W2).2 ∧ ZAt H G7 (.ref pq) (some (takeQ W2).1), ?_, ?_⟩
    · refine ⟨_, rfl, Nat.zero_le _, fun p2 np2 => ?_⟩
      have s8 : Same G6 (L2.upd G6 p2 (.lst [])) := same_upd np2
      have hp2 : L2.upd G6 p2 (.lst []) p2 = some (.lst []) := upd_same
      generalize L2.upd G6 p2 (.lst []) = G7 at *
      have hb7 := s8 _ _ hb6
      refine ⟨lb2, p2, _, rfl, rfl, SqL.of hb7, SqL.of hp2, _, rfl, ?_⟩
      cases bs2 with
      | nil =>
        refine iteF ?_
        have eW : W2 = [] := eb2.symm
        subst eW
        exact ⟨lb2, [], pq, rfl, s8, hb7, rfl, pq, rfl, nq0, s8 _ _ hq6⟩
      | cons y ys =>
        refine iteT ?_
        have eW : W2 = tl y :: ys.map tl := eb2.symm
        have hy := hbl3 y List.mem_cons_self
        have none_ : eR (tl y) = none → takeQ W2 = ((0, 1), W2) := fun e => by rw [eW]; unfold takeQ; dsimp only; rw [e]
        have some_ : ∀ r, eR (tl y) = some r → takeQ W2 = (r, ys.map tl) := fun r e => by rw [eW]; unfold takeQ; dsimp only; rw [e]
        refine ⟨_, rfl, lb2, _, 0, .str y, rfl, rfl, SqL.of hb7, at0 y ys, y, rfl, hy, ?_⟩
        cases ee : eR (tl y) with
        | none =>
          intro G8 s9
          refine ⟨rfl, _, rfl, iteF ?_⟩
          rw [none_ ee]
          exact ⟨lb2, y :: ys, pq, rfl, s8.trans s9, s9 _ _ hb7, eb2, pq, rfl, nq0, s9 _ _ (s8 _ _ hq6)⟩
        | some r =>
          intro pr G8 s9 npr hpr
          refine ⟨rfl, _, rfl, iteT ?_⟩
          rw [some_ r ee]
          have hb8 := s9 _ _ hb7
          refine ⟨_, rfl, lb2, _, 0, .str y, rfl, rfl, SqL.of hb8, at0 y ys, y, rfl, hy, ?_⟩
          rw [ee]
          intro pr2 G9 s10 npr2 hpr2
          have hb9 := s10 _ _ hb8
          refine ⟨_, rfl, 1, rfl, lb2, _, rfl, SqL.of hb9, fun p3 np3 => ?_⟩
          have e1 : cutV ((y :: ys).map V.str) (some 1) none = ys.map V.str := cutV_from ((y :: ys).map V.str) 1
          rw [e1]
          have s11 : Same G9 (L2.upd G9 p3 (.lst (ys.map V.str))) := same_upd np3
          exact ⟨_, _, rfl, p3, ys, pr2, rfl, s8.trans (s9.trans (s10.trans s11)), upd_same, rfl, pr2, rfl, (s06.trans (s8.trans s9)).free npr2, s11 _ _ hpr2⟩
    clear hb6 eb2 hbl3 hq6
    rintro σ G7 ⟨lb3, bs3, pq3, rfl, s8, hb7, eb3, zq⟩
    have s07 := s06.trans s8
    have zv7 := zv6.same s8
    have hl7 := s8 _ _ hl6
    generalize (takeQ W2).1 = r at *
    generalize (takeQ W2).2 = W3 at *
    -- nothing more
    refine ⟨fun σ G8 => σ = [some (.str z), some (.bl b), some (.ref l), some (.ref ps), some (.ref lb3), some (.int k), some (.ref pq3)] ∧ Same G7 G8 ∧ ¬ (W3 ≠ [] ∨ tl z0 = [] ∨ (sz = (1, 1) ∧ k = 0 ∧ r = (0, 1) ∧ tl z ≠ [49])), ?_, ?_⟩
    · have stop : (W3 ≠ [] ∨ tl z0 = [] ∨ (sz = (1, 1) ∧ k = 0 ∧ r = (0, 1) ∧ tl z ≠ [49])) → ∀ G, Same G7 G → Q .non G := fun h G s => by
        rw [if_pos h] at q
        exact q G (s07.trans s)
      refine ⟨_, rfl, Nat.zero_le _, fun p2 np2 => ?_⟩
      have s9 : Same G7 (L2.upd G7 p2 (.lst [])) := same_upd np2
      have hp2 : L2.upd G7 p2 (.lst []) p2 = some (.lst []) := upd_same
      generalize L2.upd G7 p2 (.lst []) = G8 at *
      refine ⟨lb3, p2, _, rfl, rfl, SqL.of (s9 _ _ hb7), SqL.of hp2, _, rfl, ?_⟩
      rw [emp_tl eb3]
      by_cases e1 : W3 ≠ []
      · rw [decide_eq_true e1]
        exact iteT (stop (.inl e1) _ s9)
      rw [decide_eq_false e1]
      refine iteF ?_
      refine ⟨_, rfl, l, _, 0, .str z0, rfl, rfl, SqL.of (s9 _ _ hl7), at0 z0 zr, rfl, _, rfl, ?_⟩
      have t0 : tl (Str.ofString "") = [] := rfl
      rw [str_dec, t0]
      by_cases e2 : tl z0 = []
      · rw [decide_eq_true e2]
        exact iteT (stop (.inr (.inl e2)) _ s9)
      rw [decide_eq_false e2]
      refine iteF ?_
      refine ⟨_, rfl, (by show 2 ≤ sizeLine; decide), fun p np => ?_⟩
      have s10 : Same G8 (L2.upd G8 p (.tup [.int 1, .int 1])) := same_upd np
      have hp : L2.upd G8 p (.tup [.int 1, .int 1]) p = some (.tup [.int 1, .int 1]) := upd_same
      generalize L2.upd G8 p (.tup [.int 1, .int 1]) = G9 at *
      refine ⟨_, _, zat_dp (zv7.same (s9.trans s10)), dp_pair (SqT.of hp), sh_c _, rfl, _, rfl, ?_⟩
      rw [eqv_c]
      by_cases e3 : ¬ sz = (1, 1)
      · rw [decide_eq_false (fun y => e3 (Option.some.inj y))]
        refine iteF (iteF ⟨rfl, s9.trans s10, ?_⟩)
        rintro (y | y | y)
        · exact e1 y
        · exact e2 y
        · exact e3 y.1
      have e3 : sz = (1, 1) := Decidable.byContradiction e3
      rw [decide_eq_true (by rw [e3])]
      refine iteT ?_
      refine ⟨_, rfl, rfl, _, rfl, ?_⟩
      by_cases e4 : ¬ k = 0
      · have : decide (V.int k = V.int 0) = false := decide_eq_false (fun y => by injection y with y; exact e4 y)
        rw [this]
        refine iteF (iteF ⟨rfl, s9.trans s10, ?_⟩)
        rintro (y | y | y)
        · exact e1 y
        · exact e2 y
        · exact e4 y.2.1
      have e4 : k = 0 := Decidable.byContradiction e4
      have : decide (V.int k = V.int 0) = true := decide_eq_true (by rw [e4])
      rw [this]
      refine iteT ?_
      refine ⟨_, rfl, (by show 2 ≤ sizeLine; decide), fun p4 np4 => ?_⟩
      have s11 : Same G9 (L2.upd G9 p4 (.tup [.int 0, .int 1])) := same_upd np4
      have hp4 : L2.upd G9 p4 (.tup [.int 0, .int 1]) p4 = some (.tup [.int 0, .int 1]) := upd_same
      generalize L2.upd G9 p4 (.tup [.int 0, .int 1]) = G10 at *
      refine ⟨_, _, zat_dp (zq.same (s9.trans (s10.trans s11))), dp_pair (SqT.of hp4), sh_c _, rfl, _, rfl, ?_⟩
      rw [eqv_c]
      by_cases e5 : ¬ r = (0, 1)
      · rw [decide_eq_false (fun y => e5 (Option.some.inj y))]
        refine iteF (iteF ⟨rfl, s9.trans (s10.trans s11), ?_⟩)
        rintro (y | y | y)
        · exact e1 y
        · exact e2 y
        · exact e5 y.2.2.1
      have e5 : r = (0, 1) := Decidable.byContradiction e5
      rw [decide_eq_true (by rw [e5])]
      refine iteT ?_
      refine ⟨_, rfl, rfl, _, rfl, ?_⟩
      have t1 : tl (Str.ofString "1") = [49] := rfl
      rw [str_dec, t1]
      by_cases e6 : tl z = [49]
      · rw [decide_eq_true e6]
        refine iteF ⟨rfl, s9.trans (s10.trans s11), ?_⟩
        rintro (y | y | y)
        · exact e1 y
        · exact e2 y
        · exact y.2.2.2 e6
      · rw [decide_eq_false e6]
        exact iteT (stop (.inr (.inr ⟨e3, e4, e5, e6⟩)) _ (s9.trans (s10.trans s11)))
    rintro σ G8 ⟨rfl, s9, go⟩
    rw [if_neg go] at q
    have s08 := s07.trans s9
    obtain ⟨ps', eps, nps, hps⟩ := zv7.same s9
    injection eps with eps
    subst eps
    obtain ⟨pq', epq, npq', hpq'⟩ := zq.same s9
    injection epq with epq
    subst epq
    refine ⟨_, rfl, b, rfl, ?_⟩
    cases b with
    | true =>
      refine iteT ?_
      refine ⟨_, rfl, ps, _, 0, .int sz.1, rfl, rfl, SqT.of hps, rfl, sz.1, rfl, _, rfl, ps, _, 1, .int sz.2, rfl, rfl, SqT.of hps, rfl, (by show 2 ≤ sizeLine; decide), fun p np => ?_⟩
      have s10 : Same G8 (L2.upd G8 p (.tup [.int (-sz.1), .int sz.2])) := same_upd np
      have hp : L2.upd G8 p (.tup [.int (-sz.1), .int sz.2]) p = some (.tup [.int (-sz.1), .int sz.2]) := upd_same
      generalize L2.upd G8 p (.tup [.int (-sz.1), .int sz.2]) = G9 at *
      refine ⟨_, rfl, _, rfl, (by show 3 ≤ sizeLine; decide), fun p2 np2 => ?_⟩
      have s11 : Same G9 (L2.upd G9 p2 (.tup [.ref p, .int k, .ref pq3])) := same_upd np2
      exact q p2 _ (s08.trans (s10.trans s11)) ((s08.trans s10).free np2) ⟨p, pq3, upd_same, TupAt.of (s11 _ _ hp), TupAt.of ((s10.trans s11) _ _ hpq')⟩
    | false =>
      refine iteF ?_
      refine ⟨_, rfl, _, rfl, _, rfl, (by show 3 ≤ sizeLine; decide), fun p2 np2 => ?_⟩
      have s11 : Same G8 (L2.upd G8 p2 (.tup [.ref ps, .int k, .ref pq3])) := same_upd np2
      exact q p2 _ (s08.trans s11) (s08.free np2) ⟨ps, pq3, upd_same, TupAt.of (s11 _ _ hps), TupAt.of (s11 _ _ hpq')⟩
end
end Nm

/-! The law's _law_pieces. -/
namespace Nm
open PySem PySem.Spec PyProof.Rows L2 LamX TL
abbrev sPieces : Stmt := topS 62
/-- the pairs (piece, whether its sign is below) at as -/
def PcA (G : Hp) (as : List Addr) (L : List (Sg × Bool)) : Prop := as.length = L.length ∧ ∀ (j : Nat) (a : Addr) (p : Sg × Bool), as[j]? = some a → L[j]? = some p → ∃ y : Str, G a = some (.tup [.str y, .bl p.2]) ∧ tl y = p.1 ∧ y.length ≤ 100000
theorem PcA.same {G G' : Hp} {as : List Addr} {L : List (Sg × Bool)} (s : Same G G') (h : PcA G as L) : PcA G' as L := ⟨h.1, fun j a p h1 h2 => let ⟨y, h3, h4⟩ := h.2 j a p h1 h2; ⟨y, s _ _ h3, h4⟩⟩
theorem PcA.updL {G : Hp} {as : List Addr} {L : List (Sg × Bool)} {l : Addr} {ys : List V} {o : HO} (hl : G l = some (.lst ys)) (h : PcA G as L) : PcA (L2.upd G l o) as L :=
  ⟨h.1, fun j a p h1 h2 => let ⟨y, h3, h4⟩ := h.2 j a p h1 h2; ⟨y, by rw [upd_ne (ne_of h3 hl (fun z => nomatch z))]; exact h3, h4⟩⟩
theorem PcA.snoc {G : Hp} {as : List Addr} {L : List (Sg × Bool)} {a : Addr} {p : Sg × Bool} {y : Str} (h : PcA G as L) (h1 : G a = some (.tup [.str y, .bl p.2])) (h2 : tl y = p.1) (h3 : y.length ≤ 100000) : PcA G (as ++ [a]) (L ++ [p]) := by
  obtain ⟨hl, hh⟩ := h
  refine ⟨by rw [List.length_append, List.length_append, hl]; rfl, fun j b q e1 e2 => ?_⟩
  by_cases c : j < as.length
  · rw [List.getElem?_append_left c] at e1
    rw [List.getElem?_append_left (by omega)] at e2
    exact hh j b q e1 e2
  · rw [List.getElem?_append_right (by omega)] at e1
    rw [List.getElem?_append_right (by omega)] at e2
    have hj := (List.getElem?_eq_some_iff.mp e1).1
    rw [List.length_singleton] at hj
    have j0 : j - as.length = 0 := by omega
    have j1 : j - L.length = 0 := by omega
    rw [j0] at e1
    rw [j1] at e2
    obtain rfl := Option.some.inj e1
    obtain rfl := Option.some.inj e2
    exact ⟨y, h1, h2, h3⟩
section
variable {P : Program} {w : World} {K : PySem.W.Frag} {mg : Str → Option Value} {base : Heap}
def spLPcs : Sp := fun vs H Q _ => ∃ z : Str, vs = [.str z] ∧ z.length ≤ 90000 ∧ ∀ (D : Addr) (as : List Addr) H', Same H H' → H D = none → H' D = some (.lst (as.map V.ref)) → PcA H' as (pcs 0 [] false (tl z)) → Q (.ref D) H'
theorem scLPcs : FnScope ["_law_text_here", "_law_made", "_law_here", "_law_is_below", "_law_at"] ["_law_text_here"] (defScope sPieces) := ⟨rfl, rfl, rfl, by decide +kernel, rfl, by decide +kernel, by decide +kernel⟩
theorem mk_dec (b : Bool) : decide (V.str ⟨#[mk b]⟩ = V.str (Str.ofString "-")) = b := by
  rw [str_dec]
  cases b <;> rfl
theorem ok_lpcs {f : Addr} {fd : FuncData} {k : Nat} (F : Fun K "_law_pieces" "_law_pieces" sPieces f fd) (ln : mg "len" = none) : FnOk P w K mg base CX0 (k + 1) f fd ["_law_text_here"] spLPcs := by
  refine F.ok scLPcs (fun vs H Q E h => ?_) (fun cdv A outer s H vs Q E hr h => ?_)
  · obtain ⟨z, rfl, _⟩ := h
    rfl
  · obtain ⟨z, rfl, hz, q⟩ := h
    refine ⟨_, pss_cons (ps_par3 (i := 1) (j := 2) (l := 3) (by rfl) scLPcs.nd rfl rfl rfl (by decide) (by decide) (by decide) rfl rfl rfl (pa_cons (pe_lst pa_nil) (pa_cons pe_str (pa_cons pe_bl pa_nil))) (by rfl))
      (pss_cons (ps_set (i := 4) scLPcs.nd rfl (.inl rfl) pe_int)
      (pss_cons (ps_while PassesOwn.never (pt_cmpR op_lt (pv 4) (pe_callB call_len_str (by rfl) ln PySem.boot_len (pa_cons (pv 0) pa_nil)) (nomark _))
        (pss_one (ps_if (pt_cmpR op_in_seq (pe_slice sl_str (pv 0) (po_some (pv 4)) (po_some (pe_op op_add (pv 4) pe_int))) (pe_lst (pa_cons pe_str (pa_cons pe_str pa_nil))) (by rfl))
          (pss_cons (ps_expr (pe_bm PySem.F.plainAttrs_list PySem.F.slot_list_append PySem.F.type_list_append mt_append (pv 1) (pa_cons (pe_tup (pa_cons (pv 2) (pa_cons (pv 3) pa_nil))) pa_nil)))
          (pss_cons (ps_par (i := 2) (j := 3) (by rfl) scLPcs.nd rfl rfl (by decide) rfl rfl (pa_cons pe_str (pa_cons (pe_cmpR op_eq (pe_ix ix_str (pv 0) (pe_op op_add (pv 4) pe_int) (fun _ _ => rfl)) pe_str (nomark _)) pa_nil)) (by rfl))
          (pss_one (ps_set (i := 4) scLPcs.nd rfl (.inl rfl) (pe_op op_add (pv 4) pe_int)))))
          (pss_one (ps_par (i := 2) (j := 4) (by rfl) scLPcs.nd rfl rfl (by decide) rfl rfl (pa_cons (pe_op op_add_str (pv 2) (pe_ix ix_str (pv 0) (pv 4) (fun _ _ => rfl))) (pa_cons (pe_op op_add (pv 4) pe_int) pa_nil)) (by rfl))))))
      (pss_one (ps_ret (pe_op op_cat (pv 1) (pe_lst (pa_cons (pe_tup (pa_cons (pv 2) (pa_cons (pv 3) pa_nil))) pa_nil))))))), ?_⟩
    obtain ⟨n, en⟩ : ∃ n, n = (tl z).length := ⟨_, rfl⟩
    have hn : z.length = n := by rw [len_s, en]
    have hsz : z.length ≤ sizeLine := size_ok (by omega)
    refine ⟨Nat.zero_le _, fun l nl => ?_⟩
    refine ⟨_, _, _, rfl, ?_⟩
    refine while_by (fun σ G => ∃ (hs : Str) (pl : Nat) (as : List Addr) (L : List (Sg × Bool)) (b : Bool), σ = [some (.str z), some (.ref l), some (.str hs), some (.bl b), some (.int pl)] ∧ Same H G ∧ G l = some (.lst (as.map V.ref)) ∧ pl ≤ n ∧ hs.length ≤ pl ∧
        L ++ pcs 0 (tl hs) b ((tl z).drop pl) = pcs 0 [] false (tl z) ∧ L.length ≤ pl ∧ PcA G as L) (fun σ _ => match σ with | [_, _, _, _, some (.int p)] => n - p.toNat | _ => 0)
      ⟨"", 0, [], [], false, rfl, same_upd nl, upd_same, Nat.zero_le _, Nat.le_refl _, rfl, Nat.le_refl _, rfl, fun j a p h => by cases h⟩ ?_ ?_
    · rintro σ G ⟨hs, pl, as, L, b, rfl, sG, hl, h2, h3, ep, lp, hp⟩
      have las : as.length = L.length := hp.1
      refine ⟨_, rfl, _, rfl, z, rfl, hsz, (pl : Int), (z.length : Int), rfl, rfl, _, rfl, ?_⟩
      refine ite2 (fun c => ?_) (fun c => ?_)
      · have c : (pl : Int) < (z.length : Int) := of_decide_eq_true c
        have hpl : pl < (tl z).length := by rw [← en]; omega
        have hcut : tl (cutS z (some (pl : Int)) (some ((pl : Int) + 3))) = ((tl z).drop pl).take 3 := by
          have x := cut_mid z pl (pl + 3) (by omega)
          rw [show pl + 3 - pl = 3 by omega] at x
          exact x
        refine ⟨_, rfl, _, rfl, (pl : Int), rfl, _, rfl, (pl : Int), 3, rfl, rfl, (pl : Int) + 3, rfl, z, rfl, hsz, (by show 2 ≤ sizeLine; decide), fun p2 np2 => ?_⟩
        have s2 : Same G (L2.upd G p2 (.lst [.str " + ", .str " - "])) := same_upd np2
        have hp2 : L2.upd G p2 (.lst [.str " + ", .str " - "]) p2 = some (.lst [.str " + ", .str " - "]) := upd_same
        generalize L2.upd G p2 (.lst [.str " + ", .str " - "]) = G2 at *
        refine ⟨p2, _, rfl, .inl (SqL.of hp2), rfl, rfl, _, rfl, ?_⟩
        dsimp only [Bool.false_eq_true, if_false]
        rw [in_cut hcut]
        have ed : (tl z).drop pl = (tl z)[pl] :: (tl z).drop (pl + 1) := List.drop_eq_getElem_cons hpl
        cases e3 : cut3 ((tl z).drop pl) with
        | some b' =>
          refine iteT ?_
          obtain ⟨r, er⟩ := cut3_some e3
          have hl3 : pl + 3 ≤ n := by
            have := congrArg List.length er
            rw [List.length_drop] at this
            simp only [List.length_cons] at this
            omega
          have hl2 := s2 _ _ hl
          refine ⟨.ref l, rfl, .inl ⟨rfl, _, SqL.of hl2⟩, _, rfl, _, rfl, (by show 2 ≤ sizeLine; decide), fun p3 np3 => ?_⟩
          have s3 : Same G2 (L2.upd G2 p3 (.tup [.str hs, .bl b])) := same_upd np3
          have hp3 : L2.upd G2 p3 (.tup [.str hs, .bl b]) p3 = some (.tup [.str hs, .bl b]) := upd_same
          generalize L2.upd G2 p3 (.tup [.str hs, .bl b]) = G3 at *
          have hl3' := s3 _ _ hl2
          refine ⟨l, _, _, rfl, rfl, hl3', by rw [List.length_map]; exact Nat.lt_of_le_of_lt (show as.length ≤ 90001 by omega) (by decide), ?_⟩
          have pc : PcA G3 (as ++ [p3]) (L ++ [(tl hs, b)]) := (hp.same (s2.trans s3)).snoc hp3 rfl (by omega)
          generalize eG4 : L2.upd G3 l _ = G4
          have hl4 : G4 l = some (.lst ((as ++ [p3]).map V.ref)) := by
            rw [← eG4, upd_same, List.map_append]
            rfl
          have pc4 : PcA G4 (as ++ [p3]) (L ++ [(tl hs, b)]) := by
            rw [← eG4]
            exact pc.updL hl3'
          have s4 : Same H G4 := fun c o hc => by
            rw [← eG4, upd_ne (ne_of_none hc nl)]
            exact s3 _ _ (s2 _ _ (sG _ _ hc))
          have hat : (tl z)[pl + 1]? = some (mk b') := by
            have : ((tl z).drop pl)[1]? = some (mk b') := by rw [er]; rfl
            rw [List.getElem?_drop] at this
            exact this
          refine ⟨_, rfl, _, rfl, (pl : Int), 1, rfl, rfl, z, (pl : Int) + 1, mk b', rfl, rfl, hsz, atI_nat (j := pl + 1) hat, rfl, ?_⟩
          rw [mk_dec]
          refine ⟨_, _, rfl, ?_⟩
          refine ⟨_, rfl, (pl : Int), 3, rfl, rfl, ?_⟩
          refine ⟨⟨"", pl + 3, as ++ [p3], L ++ [(tl hs, b)], b', rfl, s4, hl4, hl3, Nat.zero_le _, ?_, ?_, pc4⟩, ?_⟩
          · rw [er, pcs_cut (b' := b') (by rw [← er]; exact e3)] at ep
            have ed3 : (tl z).drop (pl + 3) = r := by
              have x : ((tl z).drop pl).drop 3 = r := by rw [er]; rfl
              rw [List.drop_drop] at x
              exact x
            rw [ed3, ← ep, List.append_assoc]
            rfl
          · rw [List.length_append]
            show L.length + 1 ≤ pl + 3
            omega
          · show n - (((pl : Int) + 3)).toNat < n - ((pl : Int)).toNat
            omega
        | none =>
          refine iteF ?_
          have hat : (tl z)[pl]? = some (tl z)[pl] := List.getElem?_eq_getElem hpl
          refine ⟨_, rfl, _, rfl, _, rfl, z, (pl : Int), _, rfl, rfl, hsz, atI_nat (j := pl) hat, hs, _, rfl, rfl, Nat.le_trans (show hs.length + 1 ≤ 100000 by omega) (by decide), _, rfl, (pl : Int), 1, rfl, rfl, _, _, rfl, ?_⟩
          refine ⟨⟨hs ++ ⟨#[(tl z)[pl]]⟩, pl + 1, as, L, b, rfl, sG.trans s2, s2 _ _ hl, by omega, ?_, ?_, by omega, hp.same s2⟩, ?_⟩
          · rw [Str.length_append]
            exact Nat.add_le_add h3 (Nat.le_refl 1)
          · rw [ed, pcs_go (by rw [← ed]; exact e3)] at ep
            rw [tl_append]
            exact ep
          · show n - (((pl : Int) + 1)).toNat < n - ((pl : Int)).toNat
            omega
      · have c : ¬ (pl : Int) < (z.length : Int) := fun y => c (decide_eq_true y)
        have epl : pl = n := by omega
        rw [epl, en, List.drop_length, pcs_nil] at ep
        refine ⟨_, rfl, _, rfl, _, rfl, (by show 2 ≤ sizeLine; decide), fun p3 np3 => ⟨(by show 1 ≤ sizeLine; decide), fun p4 np4 => ?_⟩⟩
        have s3 : Same G (L2.upd G p3 (.tup [.str hs, .bl b])) := same_upd np3
        have hp3 : L2.upd G p3 (.tup [.str hs, .bl b]) p3 = some (.tup [.str hs, .bl b]) := upd_same
        generalize L2.upd G p3 (.tup [.str hs, .bl b]) = G3 at *
        have s4 : Same G3 (L2.upd G3 p4 (.lst [.ref p3])) := same_upd np4
        have hp4 : L2.upd G3 p4 (.lst [.ref p3]) p4 = some (.lst [.ref p3]) := upd_same
        generalize L2.upd G3 p4 (.lst [.ref p3]) = G4 at *
        refine ⟨l, p4, as.map V.ref, [.ref p3], rfl, rfl, s4 _ _ (s3 _ _ hl), hp4, ?_, fun D nD => ?_⟩
        · rw [List.length_map]
          exact Nat.le_trans (show as.length + 1 ≤ 90002 by omega) (by decide)
        refine q D (as ++ [p3]) _ (sG.trans (s3.trans (s4.trans (same_upd nD)))) ((sG.trans (s3.trans s4)).free nD) (by rw [upd_same, List.map_append]; rfl) ?_
        rw [← ep]
        exact ((hp.same s3).snoc hp3 rfl (by omega)).same (s4.trans (same_upd nD))
    · intro σ G Q1 Q2 h12 hq
      obtain ⟨v, e, y, e2, z', e3, hl, i, j, e4, e5, b, e6, h⟩ := hq
      exact ⟨v, e, y, e2, z', e3, hl, i, j, e4, e5, b, e6, h12 _ _ h⟩
end
end Nm

/-! The law's _law_read. -/
namespace Nm
open PySem PySem.Spec PyProof.Rows L2 LamX TL
abbrev sRead : Stmt := topS 63
section
variable {P : Program} {w : World} {K : PySem.W.Frag} {mg : Str → Option Value} {base : Heap}
structure LreT (P : Program) (w : World) (K : PySem.W.Frag) (mg : Str → Option Value) (base : Heap) where
  fP : Addr
  fdP : FuncData
  fR : Addr
  fdR : FuncData
  fB : Addr
  fdB : FuncData
  FP : FnOk P w K mg base CX0 1 fP fdP ["_law_text_here"] spLPcs
  FR : FnOk P w K mg base CX0 4 fR fdR ["_law_piece", "_law_is_below"] (spLPiece K)
  FB : FnOk P w K mg base CX0 2 fB fdB ["_law_ahead", "_law_term"] (spBehind K)
  bP : Binds K fdP ["_law_text_here"] []
  bR : Binds K fdR ["_law_piece", "_law_is_below"] []
  bB : Binds K fdB ["_law_ahead", "_law_term"] []
  gP : mg "_law_pieces" = some (.ref fP)
  gR : mg "_law_piece_read" = some (.ref fR)
  gB : mg "_law_is_behind" = some (.ref fB)
  kP : PySem.W.keepIn K (.ref fP) = true
  kR : PySem.W.keepIn K (.ref fR) = true
  kB : PySem.W.keepIn K (.ref fB) = true
  str : mg "str" = none
def spLRead (K : PySem.W.Frag) : Sp := fun vs H Q _ => ∃ (x : V) (d : PyData), vs = [x] ∧ DE K Tt H x d ∧ (∀ z, d = .str z → z.length ≤ 90000) ∧
  (∀ i, rdOf d = .inl i → ∀ H', Same H H' → Q (.int i) H') ∧
  (∀ ts, rdOf d = .inr ts → ∀ p v H', Same H H' → H p = none → H' p = some (.tup [.str "told", v]) → DE K Tt H' v (cvD ts) → Q (.ref p) H')
theorem scLRead : FnScope ["_law_text_here", "_law_made", "_law_index", "_law_piece", "_law_is_below", "_law_term"] ["_law_text_here"] (defScope sRead) := ⟨rfl, rfl, rfl, by decide +kernel, rfl, by decide +kernel, by decide +kernel⟩
theorem dec8 (i : Nat) : decide (V.int (i : Int) = V.int 8) = decide (i = 8) := by
  by_cases c : i = 8
  · subst c; rfl
  · rw [decide_eq_false c, decide_eq_false]
    intro e
    injection e with e
    omega
open Classical in
theorem ok_lread {f : Addr} {fd : FuncData} (F : Fun K "_law_read" "_law_read" sRead f fd) (J : JudT mg) (U : LreT P w K mg base) : FnOk P w K mg base CX0 5 f fd ["_law_text_here"] (spLRead K) := by
  refine F.ok scLRead (fun vs H Q E h => ?_) (fun cdv A outer s H vs Q E hr h => ?_)
  · obtain ⟨x, d, rfl, _⟩ := h
    rfl
  · obtain ⟨x, d, rfl, hd, hlen, q1, q2⟩ := h
    have hr1 : Room 1 _ := hr.mono (by decide)
    have hr2 : Room 2 _ := hr.mono (by decide)
    have hr4 : Room 4 _ := hr.mono (by decide)
    refine ⟨_, pss_cons (ps_if (pt_not (pt_val (pe_callB call_isi (by rfl) J.isi (by decide +kernel) (pa_cons (pv 0) (pa_cons (pe_bltn (v := .ty "str") (by rfl) U.str (by decide +kernel) rfl) pa_nil)))))
          (pss_one (ps_ret (pe_un un_neg pe_int))) pss_nil)
      (pss_cons (ps_if (pt_cmpR op_eq (pv 0) pe_str (nomark _)) (pss_one (ps_ret (pe_tup (pa_cons pe_str (pa_cons (pe_tup pa_nil) pa_nil))))) pss_nil)
      (pss_cons (ps_set (i := 1) scLRead.nd rfl (.inl rfl) (pe_lst pa_nil))
      (pss_cons (ps_for PassesOwn.never rfl (pi_enum (by rfl) J.enum (pa_cons (pe_call U.FP hr1 (by rfl) U.gP U.kP U.bP .nil pass0 (pa_cons (pv 0) pa_nil)) pa_nil)) (pg_tup rfl (pgs_cons (pg_name (i := 2) scLRead.nd rfl (.inl rfl)) (pgs_cons (pg_tup rfl (pgs_cons (pg_name (i := 3) scLRead.nd rfl (.inl rfl)) (pgs_cons (pg_name (i := 4) scLRead.nd rfl (.inl rfl)) pgs_nil))) pgs_nil)))
        (pss_cut (ps_if (PW.pt (pw_and (pt_cmpR op_eq (pv 2) pe_int (nomark _)) (pw_and1 (pt_cmpR op_eq (pe_slice sl_str (pv 3) po_none (po_some pe_int)) pe_str (nomark _)))))
          (pss_one (ps_par (i := 3) (j := 4) (by rfl) scLRead.nd rfl rfl (by decide) rfl rfl (pa_cons (pe_slice sl_str (pv 3) (po_some pe_int) po_none) (pa_cons pe_bl pa_nil)) (by rfl))) pss_nil)
        (pss_cons (ps_set (i := 5) scLRead.nd rfl (.inl rfl) (pe_call U.FR hr4 (by rfl) U.gR U.kR U.bR .nil pass0 (pa_cons (pv 3) (pa_cons (pv 4) pa_nil))))
        (pss_cut (ps_if (PW.pt (pw_or (pt_cmpR op_isN (pv 5) pe_non (nomark _)) (pw_or (pt_cmpR op_eq (pv 2) pe_int (nomark _)) (pw_or1 (PW.pt (pw_and (pt_cmpR (op_neNil hr.units) (pv 1) (pe_lst pa_nil) (nomark _))
            (pw_and1 (pt_not (pt_val (pe_call U.FB hr2 (by rfl) U.gB U.kB U.bB .nil pass0 (pa_cons (pe_ix ix_list (pv 1) (pe_un un_neg pe_int) (fun _ _ => rfl)) (pa_cons (pv 5) pa_nil))))))))))))
          (pss_one (ps_ret (pv 2))) pss_nil)
        (pss_one (ps_expr (pe_bm PySem.F.plainAttrs_list PySem.F.slot_list_append PySem.F.type_list_append mt_append (pv 1) (pa_cons (pv 5) pa_nil))))))))
      (pss_one (ps_ret (pe_tup (pa_cons pe_str (pa_cons (pe_callTy call_tuple_of (by rfl) J.tup (by decide +kernel) (pa_cons (pv 1) pa_nil)) pa_nil)))))))), ?_⟩
    refine ⟨_, rfl, _, _, _, _, _, rfl, .ty "str", de_ty hd, kit_s d, _, rfl, ?_⟩
    have bad : ∀ (i : Int) (H1 : Hp), rdOf d = .inl i → Same H H1 → Q (.int i) H1 := fun i H1 e sm => q1 i e H1 sm
    cases hd with
    | non => exact iteT ⟨1, rfl, bad _ _ rfl fun _ _ h => h⟩
    | bl b => exact iteT ⟨1, rfl, bad _ _ rfl fun _ _ h => h⟩
    | int i => exact iteT ⟨1, rfl, bad _ _ rfl fun _ _ h => h⟩
    | tup _ _ => exact iteT ⟨1, rfl, bad _ _ rfl fun _ _ h => h⟩
    | lst _ _ _ => exact iteT ⟨1, rfl, bad _ _ rfl fun _ _ h => h⟩
    | dic _ _ => exact iteT ⟨1, rfl, bad _ _ rfl fun _ _ h => h⟩
    | str z =>
      refine iteF ?_
      have hz := hlen z rfl
      have e0 : rdOf (.str z) = match readF (tl z) with | .inl i => .inl (i : Nat) | .inr ts => .inr ts := rfl
      refine ⟨_, rfl, rfl, _, rfl, ?_⟩
      refine ite2 (fun c => ?_) (fun c => ?_)
      · have c : z = "0" := by simpa using c
        have er : readF (tl z) = .inr [] := by rw [c]; exact if_pos rfl
        refine ⟨Nat.zero_le _, fun t nt => ⟨(by show 2 ≤ sizeLine; decide), fun p np => ?_⟩⟩
        have s1 : Same H (L2.upd H t (.tup [])) := same_upd nt
        have ht : L2.upd H t (.tup []) t = some (.tup []) := upd_same
        generalize L2.upd H t (.tup []) = H1 at *
        have s2 : Same H1 (L2.upd H1 p (.tup [.str "told", .ref t])) := same_upd np
        exact q2 [] (by rw [e0, er]) p (.ref t) _ (s1.trans s2) (s1.free np) upd_same (.tup (TupAt.of (s2 _ _ ht)) .nil)
      · have c : ¬ z = "0" := by simpa using c
        have er : readF (tl z) = rdGo 0 [] (pcs 0 [] false (tl z)) := if_neg fun e => c (ext_tl e)
        obtain ⟨PP, ePP⟩ : ∃ PP, PP = pcs 0 [] false (tl z) := ⟨_, rfl⟩
        rw [← ePP] at er
        refine ⟨Nat.zero_le _, fun l nl => ?_⟩
        have s1 : Same H (L2.upd H l (.lst [])) := same_upd nl
        have hl1 : L2.upd H l (.lst []) l = some (.lst []) := upd_same
        generalize L2.upd H l (.lst []) = H1 at *
        refine ⟨_, rfl, z, rfl, hz, fun l2 ps H2 s2 nl2 hl2 hp => ?_⟩
        rw [← ePP] at hp
        have n2 : l2 ≠ l := (ne_of_none hl1 nl2).symm
        refine ⟨l2, _, rfl, SqL.of hl2, ?_⟩
        refine for_enum (K := K) (a := l2) (xs := ps.map V.ref) (fun i σ G => ∃ (y2 y3 y4 y5 : Option V) (as : List Addr) (made : List T4), σ = [some (.str z), some (.ref l), y2, y3, y4, y5] ∧ Same H G ∧ G l = some (.lst (as.map V.ref)) ∧ G l2 = some (.lst (ps.map V.ref)) ∧ PcA G ps PP ∧
            made.length = i ∧ i ≤ 8 ∧ DEs K (fun c => c ≠ l) G (as.map V.ref) (made.map tmD) ∧ rdGo 0 [] PP = rdGo i made (PP.drop i) ∧ (∀ t ∈ made, TR t))
          ⟨none, none, none, none, [], [], rfl, s1.trans s2, s2 _ _ hl1, hl2, hp, rfl, Nat.zero_le _, .nil, rfl, fun _ h => (nomatch h)⟩ (fun i σ G _ h => by obtain ⟨_, _, _, _, _, _, _, _, _, h4, _⟩ := h; exact SqL.of h4) ?_ ?_
        · rintro i x Tt' σ G hx ⟨y2, y3, y4, y5, as, made, rfl, sG, gl, gl2, gp, lm, i8, des, eg, trs⟩ nT
          rw [List.getElem?_map] at hx
          obtain ⟨pa, hy, rfl⟩ : ∃ y, ps[i]? = some y ∧ V.ref y = x := by
            cases e : ps[i]? with
            | none => rw [e] at hx; cases hx
            | some y => rw [e] at hx; exact ⟨y, rfl, Option.some.inj hx⟩
          obtain ⟨p, hp1⟩ : ∃ p, PP[i]? = some p := by
            have := (List.getElem?_eq_some_iff.mp hy).1
            rw [gp.1] at this
            exact ⟨_, List.getElem?_eq_getElem this⟩
          obtain ⟨y, py1, py2, py3⟩ := gp.2 i pa p hy hp1
          have hi := (List.getElem?_eq_some_iff.mp hp1).1
          have edrop : PP.drop i = p :: PP.drop (i + 1) := by
            rw [List.drop_eq_getElem_cons hi]
            congr 1
            exact (List.getElem?_eq_some_iff.mp hp1).2
          have s3 : Same G (L2.upd G Tt' (.tup [.int (i : Nat), .ref pa])) := same_upd nT
          have hT : L2.upd G Tt' (.tup [.int (i : Nat), .ref pa]) Tt' = some (.tup [.int (i : Nat), .ref pa]) := upd_same
          generalize L2.upd G Tt' (.tup [.int (i : Nat), .ref pa]) = G1 at *
          refine ⟨Tt', _, rfl, SqT.of hT, rfl, _, _, rfl, _, _, rfl, pa, _, rfl, SqT.of (s3 _ _ py1), rfl, _, _, rfl, _, _, rfl, rfl, rfl, ?_⟩
          have step : rdGo i made (PP.drop i) = match one4 i p with | none => .inl i | some t => if i = 8 ∨ ¬ ok4 made t then .inl i else rdGo (i + 1) (made ++ [t]) (PP.drop (i + 1)) := by rw [edrop]; rfl
          rw [step] at eg
          refine ⟨fun σ G2 => ∃ z2 : Str, σ = [some (.str z), some (.ref l), some (.int (i : Nat)), some (.str z2), some (.bl (fst4 i p).2), y5] ∧ G2 = G1 ∧ tl z2 = (fst4 i p).1 ∧ z2.length ≤ 100000, ?_, ?_⟩
          · have same : (¬ (i = 0 ∧ p.1.head? = some 45)) → fst4 i p = p := fun n => if_neg n
            refine ⟨_, rfl, rfl, _, rfl, ?_⟩
            rw [dec0]
            refine ite2 (fun c => ?_) (fun c => ?_)
            · have c : i = 0 := of_decide_eq_true c
              refine ⟨_, rfl, 1, rfl, y, rfl, size_ok (by omega), rfl, _, rfl, ?_⟩
              have tM : tl (Str.ofString "-") = [45] := rfl
              have c1 : tl (cutS y none (some 1)) = (tl y).take 1 := cut_to y 1
              rw [str_dec, c1, tM, py2]
              have c1' : (p.1.take 1 = [45]) ↔ p.1.head? = some 45 := by
                cases p.1 with
                | nil => simp
                | cons a r => simp
              by_cases h : p.1.head? = some 45
              · rw [decide_eq_true (c1'.mpr h)]
                refine iteT ?_
                have ef : fst4 i p = (p.1.tail, true) := if_pos ⟨c, h⟩
                rw [ef]
                refine ⟨_, rfl, 1, rfl, y, rfl, size_ok (by omega), _, _, rfl, ?_⟩
                refine ⟨_, rfl, rfl, ?_, Nat.le_trans (cutS_length _ _ _) py3⟩
                have e : tl (cutS y (some 1) none) = (tl y).drop 1 := cut_from y 1
                rw [e, List.drop_one, py2]
              · rw [decide_eq_false (fun q => h (c1'.mp q))]
                refine iteF ?_
                rw [same fun q => h q.2]
                exact ⟨y, rfl, rfl, py2, py3⟩
            · have c : ¬ i = 0 := fun q => c (decide_eq_true q)
              rw [same fun q => c q.1]
              exact ⟨y, rfl, rfl, py2, py3⟩
          rintro σ G2' ⟨z2, rfl, rfl, ez2, hz2⟩
          refine ⟨_, rfl, _, rfl, z2, _, rfl, hz2, ?_⟩
          rw [ez2]
          have eo : one4 i p = (lawP (fst4 i p).1).map (sg4 (fst4 i p).2) := rfl
          rw [← eo]
          cases e4 : one4 i p with
          | none =>
            rw [e4] at eg
            intro G2 s4
            refine ⟨fun _ _ => False, ⟨_, rfl, rfl, _, rfl, iteT ⟨_, rfl, bad _ _ ?_ (sG.trans (s3.trans s4))⟩⟩, fun _ _ h => h.elim⟩
            rw [e0, er, eg]
          | some t =>
            rw [e4] at eg
            intro a G2 s4 na ta
            have s04 := sG.trans (s3.trans s4)
            have gl2' := (s3.trans s4) _ _ gl2
            have gl' := (s3.trans s4) _ _ gl
            have des' := DEs.same (s3.trans s4) des
            have gp' := gp.same (s3.trans s4)
            have tr := one_tr e4
            refine ⟨fun σ G3 => σ = [some (.str z), some (.ref l), some (.int (i : Nat)), some (.str z2), some (.bl (fst4 i p).2), some (.ref a)] ∧ Same G2 G3 ∧ i ≠ 8 ∧ ok4 made t, ?_, ?_⟩
            · refine ⟨_, rfl, rfl, _, rfl, iteF ?_⟩
              refine ⟨_, rfl, rfl, _, rfl, ?_⟩
              rw [dec8]
              refine ite2 (fun c8 => ?_) (fun c8 => ?_)
              · have c8 : i = 8 := of_decide_eq_true c8
                refine ⟨_, rfl, bad _ _ ?_ s04⟩
                rw [e0, er, eg]
                dsimp only
                rw [if_pos (.inl c8)]
              have c8 : ¬ i = 8 := fun z8 => c8 (decide_eq_true z8)
              refine ⟨_, rfl, Nat.zero_le _, fun p2 np2 => ?_⟩
              have s5 : Same G2 (L2.upd G2 p2 (.lst [])) := same_upd np2
              have hp2 : L2.upd G2 p2 (.lst []) p2 = some (.lst []) := upd_same
              generalize L2.upd G2 p2 (.lst []) = G3 at *
              refine ⟨l, p2, _, rfl, rfl, SqL.of (s5 _ _ gl'), SqL.of hp2, _, rfl, ?_⟩
              have hlen2 : (as.map V.ref).length = (made.map tmD).length := des.len
              rw [List.length_map, List.length_map] at hlen2
              by_cases i0 : made = []
              · have as0 : as = [] := List.length_eq_zero_iff.mp (by rw [hlen2, i0]; rfl)
                subst as0
                refine iteF (iteF ⟨rfl, s5, c8, fun m hm => by rw [i0] at hm; cases hm⟩)
              · have as0 : as ≠ [] := fun y => i0 (List.length_eq_zero_iff.mp (by rw [← hlen2, y]; rfl))
                have eE : (!(as.map V.ref).isEmpty) = true := by
                  cases as with
                  | nil => exact absurd rfl as0
                  | cons a r => rfl
                rw [eE]
                refine iteT ?_
                obtain ⟨j, ej⟩ : ∃ j, made.length = j + 1 := ⟨made.length - 1, by
                  have : made.length ≠ 0 := fun y => i0 (List.length_eq_zero_iff.mp y)
                  omega⟩
                have hj : j < made.length := by omega
                have hja : j < (as.map V.ref).length := by rw [List.length_map]; omega
                have hxj : (as.map V.ref)[j]? = some (as.map V.ref)[j] := List.getElem?_eq_getElem hja
                obtain ⟨dj, hdj, rj⟩ := (DEs.same s5 des').at hxj
                have edj : dj = tmD made[j] := by
                  rw [List.getElem?_map, List.getElem?_eq_getElem hj] at hdj
                  exact (Option.some.inj hdj).symm
                subst edj
                have el : made.getLast? = some made[j] := by
                  rw [List.getLast?_eq_getElem?, ej]
                  exact List.getElem?_eq_getElem hj
                obtain ⟨xj, exj⟩ : ∃ xj, xj = (as.map V.ref)[j] := ⟨_, rfl⟩
                rw [← exj] at hxj rj
                refine ⟨_, rfl, 1, rfl, l, as.map V.ref, -1, xj, rfl, rfl, SqL.of (s5 _ _ gl'), ?_, ?_⟩
                · have lw : (as.map V.ref).length = j + 1 := by rw [List.length_map]; omega
                  obtain ⟨fr, lw2⟩ : ∃ fr, as.map V.ref = fr ++ [xj] := by
                    refine ⟨(as.map V.ref).take j, ?_⟩
                    have := List.take_append_drop j (as.map V.ref)
                    rw [List.drop_eq_getElem_cons hja, List.drop_eq_nil_of_le (by omega), ← exj] at this
                    exact this.symm
                  rw [lw2]
                  exact atI_last _ _
                refine ⟨_, rfl, _, .ref a, tmD made[j], tmD t, fun c => c ≠ l, made[j], t, rfl, rj, Nm.TmQ.off (s5 _ _ gl') (ta.same s5), tmOf_tmD (tr_ok (trs _ (List.getElem_mem hj))), tmOf_tmD (tr_ok tr), fun b hb => ⟨b, rfl, ?_⟩⟩
                cases b with
                | true =>
                  refine iteF ⟨rfl, s5, c8, fun m hm => ?_⟩
                  rw [el] at hm
                  obtain rfl := Option.some.inj hm
                  exact hb.mp rfl
                | false =>
                  refine iteT ⟨_, rfl, bad _ _ ?_ (s04.trans s5)⟩
                  rw [e0, er, eg]
                  dsimp only
                  rw [if_pos (.inr fun ok => by
                    have := hb.mpr (ok _ el)
                    cases this)]
            rintro σ G3 ⟨rfl, s5, c8, ok⟩
            dsimp only at eg
            rw [if_neg (by rintro (y8 | y8); exact c8 y8; exact y8 ok)] at eg
            have gl3 := s5 _ _ gl'
            refine ⟨.ref l, rfl, .inl ⟨rfl, _, SqL.of gl3⟩, _, rfl, l, _, _, rfl, rfl, gl3, ?_, ?_⟩
            · have hlen2 : (as.map V.ref).length = (made.map tmD).length := des.len
              rw [hlen2, List.length_map]
              exact Nat.lt_of_le_of_lt (show made.length ≤ 8 by omega) (by decide)
            refine ⟨_, _, _, _, as ++ [a], made ++ [t], rfl, fun c o hc => ?_, ?_, ?_, (gp'.same s5).updL gl3, ?_, by omega, ?_, eg, ?_⟩
            · rw [upd_ne (ne_of_none hc nl)]
              exact s5 _ _ (s04 _ _ hc)
            · rw [upd_same, List.map_append]
              rfl
            · rw [upd_ne n2]
              exact s5 _ _ gl2'
            · rw [List.length_append, lm]
              rfl
            · rw [List.map_append, List.map_append]
              exact DEs.snoc (Nm.DEs.upd (DEs.same s5 des')) (DE.keep (fun c o sc _ e => ⟨sc, by rw [upd_ne sc]; exact e⟩) (Nm.TmQ.off gl3 (ta.same s5)))
            · intro u hu
              rcases List.mem_append.mp hu with hu | hu
              · exact trs u hu
              · rw [List.mem_singleton.mp hu]
                exact tr
        · rintro σ G ⟨y2, y3, y4, y5, as, made, rfl, sG, gl, gl2, gp, lm, i8, des, eg, trs⟩
          rw [List.length_map] at lm i8
          have lP : ps.length = PP.length := gp.1
          rw [List.drop_eq_nil_of_le (show PP.length ≤ (ps.map V.ref).length by rw [List.length_map]; omega)] at eg
          have eg : rdGo 0 [] PP = .inr made := eg
          refine ⟨_, rfl, l, _, rfl, .inl ⟨SqL.of gl, fun t nt => ?_⟩⟩
          have s3 : Same G (L2.upd G t (.tup (as.map V.ref))) := same_upd nt
          have ht : L2.upd G t (.tup (as.map V.ref)) t = some (.tup (as.map V.ref)) := upd_same
          generalize L2.upd G t (.tup (as.map V.ref)) = G1 at *
          have cvd : DE K Tt G1 (.ref t) (cvD made) := .tup (TupAt.of ht) (DEs.keep (fun a o _ _ e => ⟨True.intro, s3 _ _ e⟩) des)
          refine ⟨(by show 2 ≤ sizeLine; decide), fun p np => ?_⟩
          have s4 : Same G1 (L2.upd G1 p (.tup [.str "told", .ref t])) := same_upd np
          exact q2 made (by rw [e0, er, eg]) p (.ref t) _ (sG.trans (s3.trans s4)) ((sG.trans s3).free np) upd_same (DE.same s4 cvd)
end
end Nm

/-! The law's _law_told: what read_curve answers. -/
namespace Nm
open PySem PySem.Spec PyProof.Rows L2 LamX TL
abbrev sTold4 : Stmt := topS 64
section
variable {P : Program} {w : World} {K : PySem.W.Frag} {mg : Str → Option Value} {base : Heap}
structure Tld4T (P : Program) (w : World) (K : PySem.W.Frag) (mg : Str → Option Value) (base : Heap) (Cc C : Addr) where
  fI : Addr
  fdI : FuncData
  CE : Addr
  FI : FnOk P w K mg base (L2.CX P w) 8 fI fdI ["text"] (spReadC K Cc C)
  bI : Binds K fdI ["text"] []
  gI : mg "read_curve" = some (.ref fI)
  kI : PySem.W.keepIn K (.ref fI) = true
  cv : CvK K mg Cc
  bad : TxtB P K mg C
  gE : mg "CurveError" = some (.ref CE)
  ex : PySem.W.exmOne K (.ref C) (.ref C) = some true
  k1 : PySem.W.kitOne K (.ref C) (.ref CE) = some true
  k2 : PySem.W.kitOne K (.ref C) (.type "ValueError") = some true
  val : mg "ValueError" = none
  noI : PySem.W.findIn K (.ref C) "index" = some none
theorem scTold4 : FnScope ["_law_text_here", "_law_told_here", "_law_curve_here", "e"] ["_law_text_here"] (defScope sTold4) := ⟨rfl, rfl, rfl, by decide +kernel, rfl, by decide +kernel, by decide +kernel⟩
theorem ok_told4 {f Cc C : Addr} {fd : FuncData} (F : Fun K "_law_told" "_law_told" sTold4 f fd) (J : JudT mg) (T : Tld4T P w K mg base Cc C) : FnOk P w K mg base CX0 9 f fd ["_law_text_here"] (spLRead K) := by
  refine F.ok scTold4 (fun vs H Q E h => ?_) (fun cdv A outer s H vs Q E hr h => ?_)
  · obtain ⟨x, d, rfl, _⟩ := h
    rfl
  · obtain ⟨x, d, rfl, hd, hlen, q1, q2⟩ := h
    have hr8 : Room 8 _ := hr
    have xf : XfC K C := ⟨T.bad.T.xt.ga, T.bad.T.xt.gt, T.bad.T.xt.sub, T.bad.T.xt.hd⟩
    refine ⟨_, pss_cons (ps_set (i := 1) scTold4.nd rfl (.inl rfl) pe_str)
      (pss_cons (ps_try_as (i := 3) (tb := fun W => tSeq (tAsg (tCallS (spReadC K Cc C) (WE W) (tCons (tVar 0) tNil)) (gName 2))
            (tAsg (tIf (tB (tCB (rIsi K) (tCons (tVar 2) (tCons (tC (.ref Cc)) tNil)))) (tTup (tCons (tC (.str "told")) (tCons (tFld K (tVar 2) "terms") tNil))) (tC (.str "other"))) (gName 1)))
          (Wout := fun _ _ _ _ => False) rfl rfl scTold4.nd rfl rfl ⟨rfl, by decide, .inl T.bad.gC⟩ L2.takes0
          (fun W pn xe tk _ => pss_cons (ps_set (i := 2) scTold4.nd rfl (.inl rfl) (by exact (pe_callS T.FI hr8 (by rfl) T.gI T.kI T.bI (fun σ => passAt tk σ) (by exact (pa_cons (pv 0) pa_nil)))))
            (pss_one (ps_set (i := 1) scTold4.nd rfl (.inl rfl) (by exact (pe_ifExp (pt_val (pe_callB call_isi (by rfl) J.isi (by decide +kernel) (pa_cons (pv 2) (pa_cons (pe_glob (v := .ref Cc) (by rfl) T.cv.gC rfl) pa_nil))))
              (pe_tup (pa_cons pe_str (pa_cons (pe_fld (pv 2) rfl) pa_nil))) pe_str)))))
          (fun a oe cls d pn hz hf => pss_one (ps_set (i := 1) scTold4.nd rfl (.inl rfl) (by exact (pe_ifExp (PW.pt (pw_and (pt_val (pe_callB (call_isD hz hf) (by rfl) J.isi (by decide +kernel) (pa_cons (pv 3) (pa_cons (pe_glob (v := .ref T.CE) (by rfl) T.gE rfl) pa_nil))))
              (pw_and1 (pt_val (pe_callB (call_isD hz hf) (by rfl) J.isi (by decide +kernel) (pa_cons (pv 3) (pa_cons (pe_bltn (v := .ty "ValueError") (by rfl) T.val (by decide +kernel) rfl) pa_nil)))))))
              (pe_xf xf T.noI hz hf (pv 3)) pe_str)))))
      (pss_one (ps_ret (pv 1)))), ?_⟩
    refine ⟨_, rfl, x, d, rfl, hd, hlen, fun i e dd H2 s2 ndd hdd => ?_, fun ts e a v H2 s2 na ha hv => ?_⟩
    · refine ⟨true, T.ex, fun _ a' ha' => ?_, fun q => Bool.noConfusion q⟩
      refine ⟨_, rfl, C, dd, .ref T.CE, .ref T.CE, true, _, rfl, rfl, rfl, T.bad.T.xt, .own T.CE, hdd, T.k1, _, rfl, ?_⟩
      refine iteT ?_
      refine ⟨_, rfl, C, dd, .ty "ValueError", _, true, _, rfl, rfl, rfl, T.bad.T.xt, .ty "ValueError", hdd, T.k2, _, rfl, ?_⟩
      refine iteT ?_
      refine ⟨_, rfl, rfl, rfl, dd, _, .int i, rfl, hdd, rfl, ?_⟩
      exact ⟨_, rfl, q1 i e _ s2⟩
    · obtain ⟨dx, ha⟩ := ha
      refine ⟨_, rfl, .ref a, .ref Cc, .ref Cc, .ref Cc, true, rfl, .own Cc, .base (.ins ha T.cv.cl T.cv.ca T.cv.gs T.cv.tk T.cv.mr), T.cv.kitT, _, rfl, ?_⟩
      refine iteT ?_
      refine ⟨_, rfl, a, Cc, dx, _, v, rfl, ha, T.cv.cl, T.cv.nT, rfl, (by show 2 ≤ sizeLine; decide), fun p np => ?_⟩
      have s3 : Same H2 (L2.upd H2 p (.tup [.str "told", v])) := same_upd np
      exact ⟨_, rfl, q2 ts e p v _ (s2.trans s3) (s2.free np) upd_same (DE.same s3 hv)⟩
end
end Nm

/-! a text times a number -/
namespace Nm
open PySem PySem.Spec PyProof.Rows L2 LamX TL
section
variable {X : Cx}
/-- one sign, times n -/
theorem op_mul_str : OpR X (binaryOp .Mult) (fun x y H Q => ∃ (i : Str) (n : Int), x = .str i ∧ y = .int n ∧ i.length = 1 ∧ 2 ≤ n ∧ n ≤ 1000 ∧ ∀ z : Str, z.length = n.toNat → Q (.str z) H) := by
  intro pins s σ H x y v u Q I rx ry h
  obtain ⟨i, n, rfl, rfl, hi, h2, h3, q⟩ := h
  obtain ⟨t, rfl⟩ := rx
  obtain ⟨t', rfl⟩ := ry
  have hr : (decide (n < -(2 ^ 63 : Int)) || decide (n ≥ 2 ^ 63)) = false := by
    rw [decide_eq_false (show ¬ n < -(2 ^ 63 : Int) by omega), decide_eq_false (show ¬ n ≥ 2 ^ 63 by omega)]
    rfl
  have hsz : (⟨(List.replicate n.toNat i.cps).foldl (· ++ ·) #[]⟩ : Str).length = n.toNat := by
    have go : ∀ (k : Nat) (a : Array Nat), ((List.replicate k i.cps).foldl (· ++ ·) a).size = a.size + k := by
      intro k
      induction k with
      | zero => intro a; rfl
      | succ k ih =>
        intro a
        rw [List.replicate_succ, List.foldl_cons, ih, Array.size_append]
        have : i.cps.size = 1 := hi
        omega
    have := go n.toNat #[]
    show ((List.replicate n.toNat i.cps).foldl (· ++ ·) #[]).size = n.toNat
    rw [this]
    exact Nat.zero_add _
  refine P.mul_str hr (fun _ _ => ?_) (fun _ _ => ?_) ?_
  · rw [hi]
    have : (1 : Int) ≤ (2 ^ 63 - 1) / n := Int.le_ediv_of_mul_le (by omega) (by omega)
    omega
  · show decide (i.length * n.toNat > sizeLine) = false
    rw [hi]
    exact decide_eq_false (Nat.not_lt.mpr (Nat.le_trans (show 1 * n.toNat ≤ 1000 by omega) (by decide)))
  · rw [if_neg (show ¬ n < 1 by omega), if_neg]
    · refine ⟨?_, ?_⟩
      · rw [hsz]
        exact Nat.le_trans (show n.toNat ≤ 1000 by omega) (by decide)
      · exact ⟨.str _, H, I.tok _, ⟨_, rfl⟩, q _ hsz⟩
    · rw [hi]
      have : (n == 1) = false := by
        rw [beq_eq_false_iff_ne]; omega
      rw [this]
      decide
end
end Nm

/-! The law's _law_word. -/
namespace Nm
open PySem PySem.Spec PyProof.Rows L2 LamX TL
abbrev sWord : Stmt := topS 65
def wdB : V → Bool | .str z => decide (z.length ≤ 60) | _ => false
/-- short texts -/
def WL (xs : List V) : Prop := ∀ v ∈ xs, ∃ z : Str, v = .str z ∧ z.length ≤ 60
theorem WL.of {xs : List V} (h : xs.all wdB = true) : WL xs := fun v hv => by
  have := List.all_eq_true.mp h v hv
  cases v with
  | str z => exact ⟨z, rfl, of_decide_eq_true this⟩
  | _ => cases this
theorem WL.app {xs ys : List V} (h : WL xs) (k : WL ys) : WL (xs ++ ys) := fun v hv => by
  rcases List.mem_append.mp hv with hv | hv
  · exact h v hv
  · exact k v hv
theorem WL.cons {z : Str} {xs : List V} (h : z.length ≤ 60) (k : WL xs) : WL (.str z :: xs) := fun v hv => by
  rcases List.mem_cons.mp hv with rfl | hv
  · exact ⟨z, rfl, h⟩
  · exact k v hv
section
variable {P : Program} {w : World} {K : PySem.W.Frag} {mg : Str → Option Value} {base : Heap}
structure WrdT (P : Program) (w : World) (K : PySem.W.Frag) (mg : Str → Option Value) (base : Heap) where
  fS : Addr
  fdS : FuncData
  FS : FnOk P w K mg base CX0 2 fS fdS ["_law_bag_here", "_law_things"] spSome
  bS : Binds K fdS ["_law_bag_here", "_law_things"] []
  gS : mg "_law_some" = some (.ref fS)
  kS : PySem.W.keepIn K (.ref fS) = true
def spWord : Sp := fun vs H Q _ => ∃ (b g : Addr) (n : Nat), vs = [.ref b] ∧ BagAt H b g n ∧ n < 1000000000000 ∧ ∀ (z : Str) H', z.length ≤ 60 → BagAt H' b g (n + 1) → KeptB b g H H' → Q (.str z) H'
theorem scWord : FnScope ["_law_bag_here", "_law_some_here"] ["_law_bag_here"] (defScope sWord) := ⟨rfl, rfl, rfl, by decide +kernel, rfl, by decide +kernel, by decide +kernel⟩
theorem ok_word {f : Addr} {fd : FuncData} (F : Fun K "_law_word" "_law_word" sWord f fd) (U : WrdT P w K mg base) : FnOk P w K mg base CX0 3 f fd ["_law_bag_here"] spWord := by
  refine F.ok scWord (fun vs H Q E h => ?_) (fun cdv A outer s H vs Q E hr h => ?_)
  · obtain ⟨b, g, n, rfl, _⟩ := h
    rfl
  · obtain ⟨b, g, n, rfl, B, hn, q⟩ := h
    refine ⟨_, pss_cons (ps_set (i := 1) scWord.nd rfl (.inl rfl) (pe_lst (pa_cons pe_str (pa_cons pe_str (pa_cons pe_str (pa_cons pe_str (pa_cons pe_str (pa_cons pe_str (pa_cons pe_str (pa_cons pe_str (pa_cons pe_str (pa_cons pe_str (pa_cons pe_str (pa_cons pe_str (pa_cons pe_str (pa_cons pe_str (pa_cons pe_str (pa_cons pe_str (pa_cons pe_str pa_nil)))))))))))))))))))
      (pss_cons (ps_set (i := 1) scWord.nd rfl (.inl rfl) (pe_op op_cat (pv 1) (pe_lst (pa_cons pe_str (pa_cons pe_str (pa_cons pe_str (pa_cons pe_str (pa_cons pe_str (pa_cons pe_str (pa_cons pe_str (pa_cons pe_str (pa_cons pe_str (pa_cons pe_str (pa_cons pe_str (pa_cons pe_str pa_nil)))))))))))))))
      (pss_cons (ps_set (i := 1) scWord.nd rfl (.inl rfl) (pe_op op_cat (pv 1) (pe_lst (pa_cons pe_str (pa_cons pe_str (pa_cons pe_str (pa_cons (pe_op op_mul_str pe_str pe_int) (pa_cons (pe_op op_mul_str pe_str pe_int) (pa_cons (pe_op op_add_str pe_str (pe_op op_mul_str pe_str pe_int)) (pa_cons (pe_op op_add_str (pe_op op_mul_str pe_str pe_int) pe_str) (pa_cons pe_str (pa_cons pe_str pa_nil))))))))))))
      (pss_one (ps_ret (pe_call U.FS hr (by rfl) U.gS U.kS U.bS .nil pass0 (pa_cons (pv 0) (pa_cons (pe_op op_cat (pv 1) (pe_lst (pa_cons pe_str (pa_cons pe_str (pa_cons pe_str pa_nil))))) pa_nil))))))), ?_⟩
    have step : ∀ {G : Hp} {l p : Addr} {xs ys : List V}, G l = some (.lst xs) → G p = none → (L2.upd G p (.lst ys)) l = some (.lst xs) := fun {G l p xs ys} h e => by
      rw [upd_ne (ne_of_none h e)]
      exact h
    refine ⟨(by show 17 ≤ sizeLine; decide), fun l1 n1 => ?_⟩
    generalize eH1 : L2.upd H l1 _ = H1
    have s1 : Same H H1 := by rw [← eH1]; exact same_upd n1
    obtain ⟨X1, w1, c1, h1⟩ : ∃ X1, WL X1 ∧ X1.length = 17 ∧ H1 l1 = some (.lst X1) := by
      refine ⟨_, ?_, ?_, (by rw [← eH1]; exact upd_same)⟩
      · exact WL.of (by decide +kernel)
      · rfl
    clear eH1
    refine ⟨_, rfl, (by show 12 ≤ sizeLine; decide), fun l2 n2 => ?_⟩
    generalize eH2 : L2.upd H1 l2 _ = H2
    have s2 : Same H1 H2 := by rw [← eH2]; exact same_upd n2
    obtain ⟨X2, w2, c2, h2⟩ : ∃ X2, WL X2 ∧ X2.length = 12 ∧ H2 l2 = some (.lst X2) := by
      refine ⟨_, ?_, ?_, (by rw [← eH2]; exact upd_same)⟩
      · exact WL.of (by decide +kernel)
      · rfl
    clear eH2
    refine ⟨l1, l2, X1, X2, rfl, rfl, s2 _ _ h1, h2, by rw [c1, c2]; decide, fun l3 n3 => ?_⟩
    have s3 : Same H2 (L2.upd H2 l3 (.lst (X1 ++ X2))) := same_upd n3
    have h3 : L2.upd H2 l3 (.lst (X1 ++ X2)) l3 = some (.lst (X1 ++ X2)) := upd_same
    generalize L2.upd H2 l3 (.lst (X1 ++ X2)) = H3 at *
    refine ⟨_, rfl, _, _, rfl, rfl, rfl, by decide, by decide, fun z1 e1 => ?_⟩
    refine ⟨_, _, rfl, rfl, rfl, by decide, by decide, fun z2 e2 => ?_⟩
    refine ⟨_, _, rfl, rfl, rfl, by decide, by decide, fun z3 e3 => ?_⟩
    refine ⟨_, _, rfl, rfl, (by rw [e3]; decide +kernel), ?_⟩
    refine ⟨_, _, rfl, rfl, rfl, by decide, by decide, fun z4 e4 => ?_⟩
    refine ⟨_, _, rfl, rfl, (by rw [e4]; decide +kernel), ?_⟩
    refine ⟨(by show 9 ≤ sizeLine; decide), fun l4 n4 => ?_⟩
    generalize eH4 : L2.upd H3 l4 _ = H4
    have s4 : Same H3 H4 := by rw [← eH4]; exact same_upd n4
    obtain ⟨X4, w4, c4, h4⟩ : ∃ X4, WL X4 ∧ X4.length = 9 ∧ H4 l4 = some (.lst X4) := by
      refine ⟨_, ?_, ?_, (by rw [← eH4]; exact upd_same)⟩
      · refine WL.cons (by decide +kernel) (WL.cons (by decide +kernel) (WL.cons (by decide +kernel) (WL.cons (by rw [e1]; decide) (WL.cons (by rw [e2]; decide) (WL.cons ?_ (WL.cons ?_ (WL.of (by decide +kernel))))))))
        · rw [Str.length_append, e3]
          decide +kernel
        · rw [Str.length_append, e4]
          decide +kernel
      · rfl
    clear eH4
    have w12 := WL.app w1 w2
    have c12 : (X1 ++ X2).length = 29 := by rw [List.length_append, c1, c2]
    generalize X1 ++ X2 = X12 at *
    refine ⟨l3, l4, X12, X4, rfl, rfl, s4 _ _ h3, h4, by rw [c12, c4]; decide, fun l5 n5 => ?_⟩
    have s5 : Same H4 (L2.upd H4 l5 (.lst (X12 ++ X4))) := same_upd n5
    have h5 : L2.upd H4 l5 (.lst (X12 ++ X4)) l5 = some (.lst (X12 ++ X4)) := upd_same
    generalize L2.upd H4 l5 (.lst (X12 ++ X4)) = H5 at *
    have w5 := WL.app w12 w4
    have c5 : (X12 ++ X4).length = 38 := by rw [List.length_append, c12, c4]
    generalize X12 ++ X4 = X5 at *
    refine ⟨_, rfl, _, rfl, (by show 3 ≤ sizeLine; decide), fun l6 n6 => ?_⟩
    generalize eH6 : L2.upd H5 l6 _ = H6
    have s6 : Same H5 H6 := by rw [← eH6]; exact same_upd n6
    obtain ⟨X6, w6, c6, h6⟩ : ∃ X6, WL X6 ∧ X6.length = 3 ∧ H6 l6 = some (.lst X6) := by
      refine ⟨_, ?_, ?_, (by rw [← eH6]; exact upd_same)⟩
      · exact WL.of (by decide +kernel)
      · rfl
    clear eH6
    refine ⟨l5, l6, X5, X6, rfl, rfl, s6 _ _ h5, h6, by rw [c5, c6]; decide, fun l7 n7 => ?_⟩
    have s7 : Same H6 (L2.upd H6 l7 (.lst (X5 ++ X6))) := same_upd n7
    have h7 : L2.upd H6 l7 (.lst (X5 ++ X6)) l7 = some (.lst (X5 ++ X6)) := upd_same
    generalize L2.upd H6 l7 (.lst (X5 ++ X6)) = H7 at *
    have w7 := WL.app w5 w6
    have c7 : (X5 ++ X6).length = 41 := by rw [List.length_append, c5, c6]
    generalize X5 ++ X6 = X7 at *
    have s06 : Same H H6 := s1.trans (s2.trans (s3.trans (s4.trans (s5.trans s6))))
    have B7 := B.same (s06.trans s7)
    obtain ⟨o1, o2⟩ := (B.same s06).off (H2 := H) n7
    refine ⟨b, g, l7, n, X7, rfl, B7, hn, h7, o1, o2, by omega, by omega, fun j v H8 hv B8 K8 => ?_⟩
    obtain ⟨z, rfl, hz⟩ := w7 v (List.mem_of_getElem? hv)
    exact q z H8 hz B8 ((KeptB.of (s06.trans s7)).trans K8)
end
end Nm

/-! The law's _law_bent. -/
namespace Nm
open PySem PySem.Spec PyProof.Rows L2 LamX TL
abbrev sBent4 : Stmt := topS 66
/-- how long texts are when joined with a text of s signs -/
def cst (s : Nat) (ys : List Str) : Nat := (ys.map (·.length)).sum + ys.length * s
theorem cst_nil (s : Nat) : cst s [] = 0 := by unfold cst; simp
theorem cst_cons (s : Nat) (y : Str) (ys : List Str) : cst s (y :: ys) = y.length + s + cst s ys := by
  unfold cst
  rw [List.map_cons, List.sum_cons, List.length_cons, Nat.add_mul]
  omega
theorem cst_app (s : Nat) : ∀ xs ys : List Str, cst s (xs ++ ys) = cst s xs + cst s ys
  | [], ys => by rw [List.nil_append, cst_nil]; omega
  | x :: xs, ys => by
    rw [List.cons_append, cst_cons, cst_cons, cst_app s xs ys]
    omega
theorem cst_take (s k : Nat) (ys : List Str) : cst s (ys.take k) ≤ cst s ys := by
  have := cst_app s (ys.take k) (ys.drop k)
  rw [List.take_append_drop] at this
  omega
theorem cst_drop (s k : Nat) (ys : List Str) : cst s (ys.drop k) ≤ cst s ys := by
  have := cst_app s (ys.take k) (ys.drop k)
  rw [List.take_append_drop] at this
  omega
theorem cst_rev (s : Nat) : ∀ ys : List Str, cst s ys.reverse = cst s ys
  | [] => rfl
  | y :: ys => by
    rw [List.reverse_cons, cst_app, cst_rev s ys, cst_cons, cst_cons, cst_nil]
    omega
theorem cst_mem {s : Nat} {y : Str} : ∀ {ys : List Str}, y ∈ ys → y.length + s ≤ cst s ys
  | x :: xs, h => by
    rw [cst_cons]
    rcases List.mem_cons.mp h with rfl | h
    · omega
    · have := cst_mem (s := s) h
      omega
theorem cst_set (s : Nat) (y : Str) : ∀ (ys : List Str) (j : Nat), cst s (ys.set j y) ≤ cst s ys + y.length
  | [], j => by rw [List.set_nil]; omega
  | x :: xs, 0 => by
    rw [List.set_cons_zero, cst_cons, cst_cons]
    omega
  | x :: xs, j + 1 => by
    rw [List.set_cons_succ, cst_cons, cst_cons]
    have := cst_set s y xs j
    omega
theorem cst_len {s : Nat} (hs : 0 < s) : ∀ ys : List Str, ys.length ≤ cst s ys
  | [] => Nat.zero_le _
  | y :: ys => by
    rw [List.length_cons, cst_cons]
    have := cst_len hs ys
    omega
theorem join_cst (a : Str) (ys : List Str) : (Txt.join a ys).length ≤ cst a.length ys := by
  rw [join_eq]
  exact StrLaws.join_length_le a ys
theorem cutV_str (ys : List Str) (lo hi : Option Int) : ∃ zs, cutV (ys.map V.str) lo hi = zs.map V.str ∧ ∀ s, cst s zs ≤ cst s ys :=
  ⟨(ys.drop (HT.sIx (ys.map V.str).length 0 lo)).take (HT.sIx (ys.map V.str).length (ys.map V.str).length hi - HT.sIx (ys.map V.str).length 0 lo), by
    unfold cutV
    rw [List.map_take, List.map_drop], fun s => Nat.le_trans (cst_take _ _ _) (cst_drop _ _ _)⟩
theorem pre_len {S l : Sg} (h : pre S l = true) : S.length ≤ l.length := by
  have e : l.take S.length = S := by simpa [pre] using h
  have := congrArg List.length e
  rw [List.length_take] at this
  omega
/-- lengths, the cut signs with them -/
def cstS (s : Nat) (ps : List Sg) : Nat := (ps.map List.length).sum + ps.length * s
theorem cstS_cons (s : Nat) (y : Sg) (ys : List Sg) : cstS s (y :: ys) = y.length + s + cstS s ys := by
  unfold cstS
  rw [List.map_cons, List.sum_cons, List.length_cons, Nat.add_mul]
  omega
theorem spl_cst {S : Sg} (hS : 0 < S.length) : ∀ (l : Sg) (k : Nat) (acc : Sg), k ≤ l.length → cstS S.length (spl S k acc l) ≤ acc.length + (l.length - k) + S.length
  | [], k, acc, h => by
    have e : spl S k acc [] = [acc] := by cases k <;> rfl
    rw [e, cstS_cons, show cstS S.length [] = 0 by unfold cstS; simp]
    omega
  | c :: r, 0, acc, h => by
    show cstS S.length (if pre S (c :: r) = true then acc :: spl S (S.length - 1) [] r else spl S 0 (acc ++ [c]) r) ≤ _
    split
    · rename_i hp
      have hl := pre_len hp
      rw [List.length_cons] at hl
      rw [cstS_cons, List.length_cons]
      have := spl_cst hS r (S.length - 1) [] (by omega)
      rw [List.length_nil] at this
      omega
    · have := spl_cst hS r 0 (acc ++ [c]) (Nat.zero_le _)
      rw [List.length_append, List.length_singleton] at this
      rw [List.length_cons]
      omega
  | c :: r, k + 1, acc, h => by
    rw [List.length_cons] at h
    have := spl_cst hS r k acc (by omega)
    show cstS S.length (spl S k acc r) ≤ _
    rw [List.length_cons]
    omega
theorem cst_tl (s : Nat) : ∀ ys : List Str, cst s ys = cstS s (ys.map tl)
  | [] => by unfold cst cstS; simp
  | y :: ys => by rw [List.map_cons, cst_cons, cstS_cons, cst_tl s ys, len_s]
theorem cst_split (z y : Str) (h : 0 < (tl y).length) (hk : y.cps.all (· < 256) = true) : cst y.length (Txt.split z y) ≤ z.length + y.length := by
  rw [cst_tl, split_spl z y (fun e => by rw [e] at h; cases h) (kind_ok hk), len_s y, len_s z]
  have := spl_cst h (tl z) 0 [] (Nat.zero_le _)
  rw [List.length_nil] at this
  omega
theorem split_ne (z y : Str) (h : 0 < (tl y).length) (hk : y.cps.all (· < 256) = true) : Txt.split z y ≠ [] := fun e => by
  have := split_spl z y (fun e => by rw [e] at h; cases h) (kind_ok hk)
  rw [e] at this
  exact spl_ne _ _ _ _ this.symm
section
variable {P : Program} {w : World} {K : PySem.W.Frag} {mg : Str → Option Value} {base : Heap}
structure Bnt4T (P : Program) (w : World) (K : PySem.W.Frag) (mg : Str → Option Value) (base : Heap) (t : Addr) where
  fP : Addr
  fdP : FuncData
  fS : Addr
  fdS : FuncData
  fW : Addr
  fdW : FuncData
  fT : Addr
  fdT : FuncData
  fV : Addr
  fdV : FuncData
  FP : FnOk P w K mg base CX0 1 fP fdP ["_law_bag_here", "_law_many"] spPick
  FS : FnOk P w K mg base CX0 2 fS fdS ["_law_bag_here", "_law_things"] spSome
  FW : FnOk P w K mg base CX0 3 fW fdW ["_law_bag_here"] spWord
  FT : FnOk P w K mg base CX0 3 fT fdT ["_law_terms_here"] (spLText K)
  FV : FnOk P w K mg base CX0 4 fV fdV ["_law_bag_here", "_law_size"] (spCurve (LT t))
  bP : Binds K fdP ["_law_bag_here", "_law_many"] []
  bS : Binds K fdS ["_law_bag_here", "_law_things"] []
  bW : Binds K fdW ["_law_bag_here"] []
  bT : Binds K fdT ["_law_terms_here"] []
  bV : Binds K fdV ["_law_bag_here", "_law_size"] []
  gP : mg "_law_pick" = some (.ref fP)
  gS : mg "_law_some" = some (.ref fS)
  gW : mg "_law_word" = some (.ref fW)
  gT : mg "_law_text" = some (.ref fT)
  gV : mg "_law_curve" = some (.ref fV)
  kP : PySem.W.keepIn K (.ref fP) = true
  kS : PySem.W.keepIn K (.ref fS) = true
  kW : PySem.W.keepIn K (.ref fW) = true
  kT : PySem.W.keepIn K (.ref fT) = true
  kV : PySem.W.keepIn K (.ref fV) = true
  len : mg "len" = none
def spBent4 (T : List (Addr × Str)) : Sp := fun vs H Q _ => ∃ (b g : Addr) (n : Nat) (z : Str), vs = [.ref b, .str z] ∧ BagAt H b g n ∧ n < 999999800000 ∧ z.length ≤ 90000 ∧ Tabs T H ∧
  ∀ (z' : Str) H', z'.length ≤ 4 * z.length + 5000 → KT b g H H' → Tabs T H' → BagAt H' b g (n + 600) → Q (.str z') H'
theorem scBent4 : FnScope ["_law_bag_here", "_law_text_here", "_law_pieces_here", "_law_way", "_law_at", "_law_place", "_law_words", "_law_here", "_law_piece", "_law_more"] ["_law_bag_here", "_law_text_here"] (defScope sBent4) := ⟨rfl, rfl, rfl, by decide +kernel, rfl, by decide +kernel, by decide +kernel⟩
theorem slice_of {G G' : Hp} {p : Addr} {ys : List Str} {lo hi : Option Int} (e : L2.upd G p (.lst (cutV (ys.map V.str) lo hi)) = G') (np : G p = none) : ∃ zs, Same G G' ∧ G' p = some (.lst (zs.map V.str)) ∧ ∀ s, cst s zs ≤ cst s ys := by
  obtain ⟨zs, ez, cz⟩ := cutV_str ys lo hi
  exact ⟨zs, by rw [← e]; exact same_upd np, by rw [← e, upd_same, ez], cz⟩
theorem cat_of {G G' : Hp} {p : Addr} {xs zs : List Str} (e : L2.upd G p (.lst (xs.map V.str ++ zs.map V.str)) = G') (np : G p = none) : Same G G' ∧ G' p = some (.lst ((xs ++ zs).map V.str)) :=
  ⟨by rw [← e]; exact same_upd np, by rw [← e, upd_same, List.map_append]⟩
theorem Tabs.updL {T : List (Addr × Str)} {H : Hp} {l : Addr} {ys : List V} {o : HO} (hl : H l = some (.lst ys)) (t : Tabs T H) : Tabs T (L2.upd H l o) := fun p hp => by
  obtain ⟨ps, h1, h2, h3⟩ := t p hp
  have off : ∀ {c : Addr} {u : HO}, H c = some u → (∀ xs, u ≠ .lst xs) → L2.upd H l o c = some u := fun {c u} h no => by
    rw [upd_ne (ne_of h hl (no ys))]
    exact h
  refine ⟨ps, off h1 (fun _ z => nomatch z), h2, fun pos cv hc => ?_⟩
  obtain ⟨c, e1, e2⟩ := h3 pos cv hc
  refine ⟨c, e1, off e2 fun xs z => ?_⟩
  unfold CodeO at z
  cases z
theorem ok_bent4 {f t : Addr} {fd : FuncData} (F : Fun K "_law_bent" "_law_bent" sBent4 f fd) (U : Bnt4T P w K mg base t) : FnOk P w K mg base CX0 5 f fd ["_law_bag_here", "_law_text_here"] (spBent4 (LT t)) := by
  refine F.ok scBent4 (fun vs H Q E h => ?_) (fun cdv A outer s H vs Q E hr h => ?_)
  · obtain ⟨b, g, n, z, rfl, _⟩ := h
    rfl
  · obtain ⟨b, g, n, z, rfl, B, hn, hz, hT, q⟩ := h
    have hr3 : Room 3 _ := hr.mono (by decide)
    have hr2 : Room 2 _ := hr.mono (by decide)
    have hr1 : Room 1 _ := hr.mono (by decide)
    refine ⟨_, pss_cons (ps_par (i := 2) (j := 3) (by rfl) scBent4.nd rfl rfl (by decide) rfl rfl (pa_cons (pe_split (pv 1) pe_str) (pa_cons (pe_call U.FP hr1 (by rfl) U.gP U.kP U.bP .nil pass0 (pa_cons (pv 0) (pa_cons pe_int pa_nil))) pa_nil)) (by rfl))
      (pss_cons (ps_par (i := 4) (j := 5) (by rfl) scBent4.nd rfl rfl (by decide) rfl rfl (pa_cons (pe_call U.FP hr1 (by rfl) U.gP U.kP U.bP .nil pass0 (pa_cons (pv 0) (pa_cons (pe_callB call_len_seq (by rfl) U.len PySem.boot_len (pa_cons (pv 2) pa_nil)) pa_nil))) (pa_cons (pe_call U.FP hr1 (by rfl) U.gP U.kP U.bP .nil pass0 (pa_cons (pv 0) (pa_cons (pe_op op_add (pe_callB call_len_str (by rfl) U.len PySem.boot_len (pa_cons (pv 1) pa_nil)) pe_int) pa_nil))) pa_nil)) (by rfl))
      (pss_cons (ps_set (i := 6) scBent4.nd rfl (.inl rfl) (pe_split (pe_ix ix_list (pv 2) (pv 4) (fun _ _ => rfl)) pe_str))
      (pss_cut (ps_set (i := 7) scBent4.nd rfl (.inl rfl) (pe_call U.FP hr1 (by rfl) U.gP U.kP U.bP .nil pass0 (pa_cons (pv 0) (pa_cons (pe_callB call_len_seq (by rfl) U.len PySem.boot_len (pa_cons (pv 6) pa_nil)) pa_nil))))
      (pss_cons (ps_if (pt_cmpR op_eq (pv 3) pe_int (nomark _)) (pss_one (ps_ret (pe_join pe_str (pe_op op_cat (pe_slice sl_list (pv 2) po_none (po_some (pv 4))) (pe_slice sl_list (pv 2) (po_some (pe_op op_add (pv 4) pe_int)) po_none))))) pss_nil)
      (pss_cons (ps_if (pt_cmpR op_eq (pv 3) pe_int (nomark _)) (pss_one (ps_ret (pe_join pe_str (pe_op op_cat (pe_slice sl_list (pv 2) po_none (po_some (pe_op op_add (pv 4) pe_int))) (pe_slice sl_list (pv 2) (po_some (pv 4)) po_none))))) pss_nil)
      (pss_cons (ps_if (pt_cmpR op_eq (pv 3) pe_int (nomark _)) (pss_one (ps_ret (pe_join pe_str (pe_op op_cat (pe_op op_cat (pe_slice sl_list (pv 2) po_none (po_some (pv 4))) (pe_revL (pe_slice sl_list (pv 2) (po_some (pv 4)) (po_some (pe_op op_add (pv 4) pe_int))))) (pe_slice sl_list (pv 2) (po_some (pe_op op_add (pv 4) pe_int)) po_none))))) pss_nil)
      (pss_cons (ps_if (pt_cmpR op_eq (pv 3) pe_int (nomark _)) (pss_cons (ps_asg (pe_call U.FW hr3 (by rfl) U.gW U.kW U.bW .nil pass0 (pa_cons (pv 0) pa_nil)) (pg_sub (pv 6) (pv 7) set_list)) (pss_one (ps_ret (pe_join pe_str (pe_op op_cat (pe_op op_cat (pe_slice sl_list (pv 2) po_none (po_some (pv 4))) (pe_lst (pa_cons (pe_join pe_str (pv 6)) pa_nil))) (pe_slice sl_list (pv 2) (po_some (pe_op op_add (pv 4) pe_int)) po_none)))))) pss_nil)
      (pss_cons (ps_if (pt_cmpR op_eq (pv 3) pe_int (nomark _)) (pss_cons (ps_set (i := 6) scBent4.nd rfl (.inl rfl) (pe_op op_cat (pe_op op_cat (pe_slice sl_list (pv 6) po_none (po_some (pv 7))) (pe_lst (pa_cons (pe_call U.FW hr3 (by rfl) U.gW U.kW U.bW .nil pass0 (pa_cons (pv 0) pa_nil)) pa_nil))) (pe_slice sl_list (pv 6) (po_some (pv 7)) po_none))) (pss_one (ps_ret (pe_join pe_str (pe_op op_cat (pe_op op_cat (pe_slice sl_list (pv 2) po_none (po_some (pv 4))) (pe_lst (pa_cons (pe_join pe_str (pv 6)) pa_nil))) (pe_slice sl_list (pv 2) (po_some (pe_op op_add (pv 4) pe_int)) po_none)))))) pss_nil)
      (pss_cons (ps_if (pt_cmpR op_eq (pv 3) pe_int (nomark _)) (pss_cons (ps_set (i := 8) scBent4.nd rfl (.inl rfl) (pe_call U.FS hr2 (by rfl) U.gS U.kS U.bS .nil pass0 (pa_cons (pv 0) (pa_cons (pe_lst (pa_cons pe_str (pa_cons pe_str (pa_cons pe_str (pa_cons pe_str (pa_cons pe_str (pa_cons pe_str (pa_cons pe_str pa_nil)))))))) pa_nil)))) (pss_one (ps_ret (pe_join pe_str (pe_op op_cat (pe_op op_cat (pe_slice sl_list (pv 2) po_none (po_some (pv 4))) (pe_lst (pa_cons (pv 8) pa_nil))) (pe_slice sl_list (pv 2) (po_some (pv 4)) po_none)))))) pss_nil)
      (pss_cons (ps_if (pt_cmpR op_eq (pv 3) pe_int (nomark _)) (pss_one (ps_ret (pe_op op_add_str (pe_op op_add_str (pe_slice sl_str (pv 1) po_none (po_some (pv 5))) (pe_call U.FS hr2 (by rfl) U.gS U.kS U.bS .nil pass0 (pa_cons (pv 0) (pa_cons (pe_lst (pa_cons pe_str (pa_cons pe_str (pa_cons pe_str (pa_cons pe_str (pa_cons pe_str (pa_cons pe_str (pa_cons pe_str (pa_cons pe_str (pa_cons pe_str (pa_cons pe_str (pa_cons pe_str pa_nil)))))))))))) pa_nil)))) (pe_slice sl_str (pv 1) (po_some (pv 5)) po_none)))) pss_nil)
      (pss_cons (ps_if (pt_cmpR op_eq (pv 3) pe_int (nomark _)) (pss_one (ps_ret (pe_op op_add_str (pe_slice sl_str (pv 1) po_none (po_some (pv 5))) (pe_slice sl_str (pv 1) (po_some (pe_op op_add (pv 5) pe_int)) po_none)))) pss_nil)
      (pss_cons (ps_set (i := 9) scBent4.nd rfl (.inl rfl) (pe_call U.FT hr3 (by rfl) U.gT U.kT U.bT .nil pass0 (pa_cons (pe_call U.FV hr (by rfl) U.gV U.kV U.bV .nil pass0 (pa_cons (pv 0) (pa_cons pe_int pa_nil))) pa_nil)))
      (pss_one (ps_ret (pe_call U.FS hr2 (by rfl) U.gS U.kS U.bS .nil pass0 (pa_cons (pv 0) (pa_cons (pe_lst (pa_consG (peg_opL op_add_str (peg_opR op_add_str (pv 1) peg_str) (pv 9)) (pat_cons (CwR.PET.of (pe_op op_add_str pe_str (pv 1))) (pat_cons (CwR.pet_replC (pv 1)) (pat_cons (CwR.PET.of (pe_op op_add_str pe_str (pv 1))) pat_nil))))) pa_nil))))))))))))))))), ?_⟩
    have hsz : z.length ≤ sizeLine := size_ok (by omega)
    refine ⟨_, rfl, ⟨_, rfl⟩, _, _, rfl, rfl, rfl, size_ok (by omega), fun l nl => ?_⟩
    have csp : cst 3 (Txt.split z " + ") ≤ z.length + 3 := cst_split z " + " (by show 0 < 3; decide) (by decide +kernel)
    have nsp : Txt.split z " + " ≠ [] := split_ne z " + " (by show 0 < 3; decide) (by decide +kernel)
    generalize Txt.split z " + " = ys at *
    have hlys : ys.length ≤ z.length + 3 := Nat.le_trans (cst_len (by decide) ys) csp
    have s1 : Same H (L2.upd H l (.lst (ys.map V.str))) := same_upd nl
    have hl1 : L2.upd H l (.lst (ys.map V.str)) l = some (.lst (ys.map V.str)) := upd_same
    generalize L2.upd H l (.lst (ys.map V.str)) = H1 at *
    have B1 := B.same s1
    obtain ⟨lo1, lo2⟩ := B.off (H2 := H) nl
    refine ⟨_, rfl, b, g, n, 9, rfl, B1, by omega, by decide, by decide +kernel, fun r H2 r0 r1 B2 K2 => ?_⟩
    refine ⟨_, _, rfl, ?_⟩
    have hl2 := K2 _ _ hl1 lo1 lo2
    have ypos : 0 < ys.length := List.length_pos_iff.mpr nsp
    have lV : (ys.map V.str).length = ys.length := List.length_map _
    have big : ∀ m : Int, m ≤ 1000000 → m < 2 ^ 1000 := fun m hm => Int.lt_of_le_of_lt hm (by decide +kernel)
    refine ⟨_, rfl, _, rfl, l, _, rfl, .inl (SqL.of hl2), b, g, n + 1, _, rfl, B2, by omega, by omega, big _ (by omega), fun ai H3 a0 a1 B3 K3 => ?_⟩
    have hl3 := K3 _ _ hl2 lo1 lo2
    refine ⟨_, rfl, _, rfl, z, rfl, hsz, (z.length : Int), 1, rfl, rfl, b, g, n + 2, _, rfl, B3, by omega, by omega, big _ (by omega), fun pl H4 p0 p1 B4 K4 => ?_⟩
    refine ⟨_, _, rfl, ?_⟩
    have hl4 := K4 _ _ hl3 lo1 lo2
    obtain ⟨aj, rfl⟩ : ∃ aj : Nat, ai = (aj : Int) := ⟨ai.toNat, by omega⟩
    have haj : aj < ys.length := by omega
    have hyj : (ys.map V.str)[aj]? = some (.str ys[aj]) := by rw [List.getElem?_map, List.getElem?_eq_getElem haj]; rfl
    have cyj : ys[aj].length + 3 ≤ cst 3 ys := cst_mem (List.getElem_mem haj)
    generalize ys[aj] = y at *
    have hysz : y.length + 2 ≤ sizeLine := size_ok (by omega)
    refine ⟨_, rfl, _, rfl, l, _, (aj : Int), _, rfl, rfl, SqL.of hl4, atI_nat hyj, ⟨_, rfl⟩, _, _, rfl, rfl, rfl, hysz, fun lw nlw => ?_⟩
    have csw : cst 1 (Txt.split y " ") ≤ y.length + 1 := cst_split y " " (by show 0 < 1; decide) (by decide +kernel)
    have nsw : Txt.split y " " ≠ [] := split_ne y " " (by show 0 < 1; decide) (by decide +kernel)
    generalize Txt.split y " " = ws at *
    have s5 : Same H4 (L2.upd H4 lw (.lst (ws.map V.str))) := same_upd nlw
    have hw5 : L2.upd H4 lw (.lst (ws.map V.str)) lw = some (.lst (ws.map V.str)) := upd_same
    generalize L2.upd H4 lw (.lst (ws.map V.str)) = H5 at *
    have B5 := B4.same s5
    have hl5 := s5 _ _ hl4
    obtain ⟨wo1, wo2⟩ := B4.off (H2 := H) nlw
    have k04 : KeptB b g H H4 := (KeptB.of s1).trans (K2.trans (K3.trans K4))
    have hw0 : H lw = none := k04.free B nlw wo1 wo2
    have wpos : 0 < ws.length := List.length_pos_iff.mpr nsw
    have hlws : ws.length ≤ y.length + 1 := Nat.le_trans (cst_len (by decide) ws) csw
    have lW : (ws.map V.str).length = ws.length := List.length_map _
    have nlw' : lw ≠ l := (ne_of_none hl4 nlw).symm
    refine ⟨fun σ G => ∃ wh : Int, σ = [some (.ref b), some (.str z), some (.ref l), some (.int r), some (.int aj), some (.int pl), some (.ref lw), some (.int wh), none, none] ∧ KT b g H G ∧ Tabs (LT t) G ∧ BagAt G b g (n + 4) ∧ G l = some (.lst (ys.map V.str)) ∧ G lw = some (.lst (ws.map V.str)) ∧ 0 ≤ wh ∧ wh < ws.length, ?_, ?_⟩
    · refine ⟨_, rfl, _, rfl, lw, _, rfl, .inl (SqL.of hw5), b, g, n + 3, _, rfl, B5, by omega, by omega, big _ (by omega), fun wh H6 w0 w1 B6 K6 => ?_⟩
      have kk : KeptB b g H H6 := k04.trans ((KeptB.of s5).trans K6)
      exact ⟨wh, rfl, KT.ofB kk, Nm.Tabs.keptB hT kk B, B6, K6 _ _ hl5 lo1 lo2, K6 _ _ hw5 wo1 wo2, w0, by omega⟩
    clear hl1 hl2 hl3 hl4 hl5 hw5 B1 B2 B3 B4 B5 K2 K3 K4 s1 s5 k04 nlw
    rintro σ G ⟨wh, rfl, kt, TG, BG, hl, hw, w0, w1⟩
    have fin : ∀ {z' : Str} {G' : Hp}, KT b g H G' → Tabs (LT t) G' → BagAt G' b g (n + 600) → z'.length ≤ 4 * z.length + 5000 → Q (.str z') G' := fun {z' G'} h1 h2 h3 h4 => q z' G' h4 h1 h2 h3
    have dr : ∀ k : Int, decide (V.int r = V.int k) = decide (r = k) := fun k => by
      by_cases c : r = k
      · subst c; simp
      · rw [decide_eq_false c, decide_eq_false]
        intro e
        injection e with e
        exact c e
    -- 0: one left out
    have fins : ∀ {z' : Str} {G' : Hp}, Same G G' → z'.length ≤ 4 * z.length + 5000 → Q (.str z') G' := fun {z' G'} s h => fin (kt.trans (KT.ofB (KeptB.of s))) (TG.ext s) ((BG.same s).mono (by omega)) h
    have jn : ∀ {p : Addr} {zs : List Str} {G' : Hp}, G' p = some (.lst (zs.map V.str)) → cst 3 zs ≤ 4 * z.length + 5000 → (∀ z' : Str, z'.length ≤ 4 * z.length + 5000 → Q (.str z') G') →
        ∃ (a : Str) (p' : Addr) (us : List Str), V.str " + " = .str a ∧ [V.ref p] = [V.ref p'] ∧ (SqL K G' p' (us.map V.str) ∨ SqT K G' p' (us.map V.str)) ∧ (us.map (·.length)).sum + us.length * a.length ≤ 16777216 ∧ Q (.str (Txt.join a us)) G' := fun {p zs G'} h c q1 =>
      ⟨_, p, zs, rfl, rfl, .inl (SqL.of h), Nat.le_trans (show cst 3 zs ≤ 400000 by omega) (by decide), q1 _ (Nat.le_trans (join_cst _ _) c)⟩
    have lens : ∀ {us vs : List Str}, cst 3 us ≤ 400000 → cst 3 vs ≤ 400000 → (us.map V.str).length + (vs.map V.str).length ≤ sizeLine := fun {us vs} h1 h2 => by
      rw [List.length_map, List.length_map]
      have e1 := cst_len (s := 3) (by decide) us
      have e2 := cst_len (s := 3) (by decide) vs
      exact Nat.le_trans (show us.length + vs.length ≤ 800000 by omega) (by decide)
    have lenw : ∀ {us vs : List Str}, cst 1 us ≤ 400000 → cst 1 vs ≤ 400000 → (us.map V.str).length + (vs.map V.str).length ≤ sizeLine := fun {us vs} h1 h2 => by
      rw [List.length_map, List.length_map]
      have e1 := cst_len (s := 1) (by decide) us
      have e2 := cst_len (s := 1) (by decide) vs
      exact Nat.le_trans (show us.length + vs.length ≤ 800000 by omega) (by decide)
    refine ⟨_, rfl, rfl, _, rfl, ite2 (fun _ => ?_) (fun _ => ?_)⟩
    · refine ⟨⟨_, rfl⟩, ?_⟩
      refine ⟨_, rfl, _, rfl, (aj : Int), rfl, l, _, rfl, SqL.of hl, fun p1 np1 => ?_⟩
      generalize eG1 : L2.upd _ p1 _ = G1
      obtain ⟨z1, s1, h1, c1⟩ := slice_of eG1 np1
      clear eG1
      refine ⟨_, rfl, _, rfl, (aj : Int), 1, rfl, rfl, (aj : Int) + 1, rfl, l, _, rfl, SqL.of (s1 _ _ hl), fun p2 np2 => ?_⟩
      generalize eG2 : L2.upd _ p2 _ = G2
      obtain ⟨z2, s2, h2, c2⟩ := slice_of eG2 np2
      clear eG2
      have k1 := c1 3
      have k2 := c2 3
      refine ⟨p1, p2, _, _, rfl, rfl, (s2 _ _ h1), h2, (lens (by omega) (by omega)), fun p3 np3 => ?_⟩
      generalize eG3 : L2.upd _ p3 _ = G3
      obtain ⟨s3, h3⟩ := cat_of eG3 np3
      clear eG3
      refine jn h3 (by rw [cst_app]; omega) fun z2 hz2 => fins (s1.trans (s2.trans s3)) hz2
    refine ⟨_, rfl, rfl, _, rfl, ite2 (fun _ => ?_) (fun _ => ?_)⟩
    · refine ⟨⟨_, rfl⟩, ?_⟩
      refine ⟨_, rfl, _, rfl, (aj : Int), 1, rfl, rfl, (aj : Int) + 1, rfl, l, _, rfl, SqL.of hl, fun p4 np4 => ?_⟩
      generalize eG4 : L2.upd _ p4 _ = G4
      obtain ⟨z4, s4, h4, c4⟩ := slice_of eG4 np4
      clear eG4
      refine ⟨_, rfl, _, rfl, (aj : Int), rfl, l, _, rfl, SqL.of (s4 _ _ hl), fun p5 np5 => ?_⟩
      generalize eG5 : L2.upd _ p5 _ = G5
      obtain ⟨z5, s5, h5, c5⟩ := slice_of eG5 np5
      clear eG5
      have k1 := c4 3
      have k2 := c5 3
      refine ⟨p4, p5, _, _, rfl, rfl, (s5 _ _ h4), h5, (lens (by omega) (by omega)), fun p6 np6 => ?_⟩
      generalize eG6 : L2.upd _ p6 _ = G6
      obtain ⟨s6, h6⟩ := cat_of eG6 np6
      clear eG6
      refine jn h6 (by rw [cst_app]; omega) fun z2 hz2 => fins (s4.trans (s5.trans s6)) hz2
    refine ⟨_, rfl, rfl, _, rfl, ite2 (fun _ => ?_) (fun _ => ?_)⟩
    · refine ⟨⟨_, rfl⟩, ?_⟩
      refine ⟨_, rfl, _, rfl, (aj : Int), rfl, l, _, rfl, SqL.of hl, fun p7 np7 => ?_⟩
      generalize eG7 : L2.upd _ p7 _ = G7
      obtain ⟨z7, s7, h7, c7⟩ := slice_of eG7 np7
      clear eG7
      refine ⟨_, rfl, _, rfl, (aj : Int), rfl, _, rfl, (aj : Int), 2, rfl, rfl, (aj : Int) + 2, rfl, l, _, rfl, SqL.of (s7 _ _ hl), fun p8 np8 => ?_⟩
      generalize eG8 : L2.upd _ p8 _ = G8
      obtain ⟨z8, s8, h8, c8⟩ := slice_of eG8 np8
      clear eG8
      refine ⟨p8, _, rfl, SqL.of h8, fun p9 np9 => ?_⟩
      have s9 : Same G8 (L2.upd G8 p9 (.lst (z8.map V.str).reverse)) := same_upd np9
      have h9 : L2.upd G8 p9 (.lst (z8.map V.str).reverse) p9 = some (.lst (z8.reverse.map V.str)) := by rw [upd_same, List.map_reverse]
      generalize L2.upd G8 p9 (.lst (z8.map V.str).reverse) = G9 at *
      have k1 := c7 3
      have k2 := c8 3
      have k3 := cst_rev 3 z8
      refine ⟨p7, p9, _, _, rfl, rfl, ((s8.trans s9) _ _ h7), h9, (lens (by omega) (by omega)), fun p10 np10 => ?_⟩
      generalize eG10 : L2.upd _ p10 _ = G10
      obtain ⟨s10, h10⟩ := cat_of eG10 np10
      clear eG10
      refine ⟨_, rfl, _, rfl, (aj : Int), 2, rfl, rfl, (aj : Int) + 2, rfl, l, _, rfl, SqL.of ((s7.trans (s8.trans (s9.trans s10))) _ _ hl), fun p11 np11 => ?_⟩
      generalize eG11 : L2.upd _ p11 _ = G11
      obtain ⟨z11, s11, h11, c11⟩ := slice_of eG11 np11
      clear eG11
      have k4 := c11 3
      have k5 := cst_app 3 z7 z8.reverse
      refine ⟨p10, p11, _, _, rfl, rfl, (s11 _ _ h10), h11, (lens (by omega) (by omega)), fun p12 np12 => ?_⟩
      generalize eG12 : L2.upd _ p12 _ = G12
      obtain ⟨s12, h12⟩ := cat_of eG12 np12
      clear eG12
      refine jn h12 (by rw [cst_app]; omega) fun z2 hz2 => fins (s7.trans (s8.trans (s9.trans (s10.trans (s11.trans s12))))) hz2
    refine ⟨_, rfl, rfl, _, rfl, ite2 (fun _ => ?_) (fun _ => ?_)⟩
    · refine ⟨_, rfl, b, g, n + 4, rfl, BG, by omega, fun zw Ga hzw Ba Ka => ?_⟩
      have hla := Ka _ _ hl lo1 lo2
      have hwa := Ka _ _ hw wo1 wo2
      refine ⟨_, rfl, _, rfl, lw, _, wh, wh.toNat, rfl, rfl, hwa, (by unfold ixN; rw [if_pos w0, if_pos (by omega)]), ?_⟩
      have hlb : L2.upd Ga lw (.lst ((ws.map V.str).set wh.toNat (.str zw))) l = some (.lst (ys.map V.str)) := by rw [upd_ne nlw'.symm]; exact hla
      have hwb : L2.upd Ga lw (.lst ((ws.map V.str).set wh.toNat (.str zw))) lw = some (.lst ((ws.set wh.toNat zw).map V.str)) := by rw [upd_same, List.map_set]
      have Bb : BagAt (L2.upd Ga lw (.lst ((ws.map V.str).set wh.toNat (.str zw)))) b g (n + 5) := Ba.upd wo1.symm wo2.symm
      have Tb : Tabs (LT t) (L2.upd Ga lw (.lst ((ws.map V.str).set wh.toNat (.str zw)))) := Nm.Tabs.updL hwa (Nm.Tabs.keptB TG Ka BG)
      have kb : KT b g H (L2.upd Ga lw (.lst ((ws.map V.str).set wh.toNat (.str zw)))) := fun c o hc n1 n2 n3 => by
        rw [upd_ne (ne_of_none hc hw0)]
        exact (kt.trans (KT.ofB Ka)) c o hc n1 n2 n3
      have cw : cst 1 (ws.set wh.toNat zw) ≤ cst 1 ws + zw.length := cst_set _ _ _ _
      generalize L2.upd Ga lw (.lst ((ws.map V.str).set wh.toNat (.str zw))) = Gb at *
      generalize ws.set wh.toNat zw = ws2 at *
      refine ⟨⟨_, rfl⟩, ?_⟩
      refine ⟨_, rfl, _, rfl, (aj : Int), rfl, l, _, rfl, SqL.of hlb, fun p13 np13 => ?_⟩
      generalize eG13 : L2.upd _ p13 _ = G13
      obtain ⟨z13, s13, h13, c13⟩ := slice_of eG13 np13
      clear eG13
      refine ⟨⟨_, rfl⟩, _, rfl, ?_⟩
      refine ⟨_, lw, _, rfl, rfl, .inl (SqL.of (s13 _ _ hwb)), (Nat.le_trans (show cst 1 _ ≤ 400000 by omega) (by decide)), ?_⟩
      have k0 : (Txt.join " " _).length ≤ _ := join_cst " " ws2
      have k0 : (Txt.join " " ws2).length ≤ cst 1 ws2 := k0
      generalize Txt.join " " ws2 = zj at *
      refine ⟨(by show 1 ≤ sizeLine; decide), fun p14 np14 => ?_⟩
      have s14 : Same _ (L2.upd _ p14 (.lst [.str zj])) := same_upd np14
      have h14 : L2.upd G13 p14 (.lst [.str zj]) p14 = some (.lst ([zj].map V.str)) := upd_same
      generalize L2.upd G13 p14 (.lst [.str zj]) = G14 at *
      have k1 := c13 3
      have k2 : cst 3 [zj] = zj.length + 3 := by rw [cst_cons, cst_nil]
      refine ⟨p13, p14, _, _, rfl, rfl, (s14 _ _ h13), h14, (lens (by omega) (by omega)), fun p15 np15 => ?_⟩
      generalize eG15 : L2.upd _ p15 _ = G15
      obtain ⟨s15, h15⟩ := cat_of eG15 np15
      clear eG15
      refine ⟨_, rfl, _, rfl, (aj : Int), 1, rfl, rfl, (aj : Int) + 1, rfl, l, _, rfl, SqL.of ((s13.trans (s14.trans s15)) _ _ hlb), fun p16 np16 => ?_⟩
      generalize eG16 : L2.upd _ p16 _ = G16
      obtain ⟨z16, s16, h16, c16⟩ := slice_of eG16 np16
      clear eG16
      have k4 := c16 3
      have k5 := cst_app 3 z13 [zj]
      refine ⟨p15, p16, _, _, rfl, rfl, (s16 _ _ h15), h16, (lens (by omega) (by omega)), fun p17 np17 => ?_⟩
      generalize eG17 : L2.upd _ p17 _ = G17
      obtain ⟨s17, h17⟩ := cat_of eG17 np17
      clear eG17
      refine jn h17 (by rw [cst_app]; omega) fun z2 hz2 => fin (kb.trans (KT.ofB (KeptB.of (s13.trans (s14.trans (s15.trans (s16.trans s17))))))) (Tb.ext (s13.trans (s14.trans (s15.trans (s16.trans s17))))) ((Bb.same (s13.trans (s14.trans (s15.trans (s16.trans s17))))).mono (by omega)) hz2
    refine ⟨_, rfl, rfl, _, rfl, ite2 (fun _ => ?_) (fun _ => ?_)⟩
    · skip
      refine ⟨_, rfl, _, rfl, wh, rfl, lw, _, rfl, SqL.of hw, fun p18 np18 => ?_⟩
      generalize eG18 : L2.upd _ p18 _ = G18
      obtain ⟨z18, s18, h18, c18⟩ := slice_of eG18 np18
      clear eG18
      have BGa := BG.same s18
      obtain ⟨q1, q2⟩ := BG.off (H2 := H) np18
      refine ⟨_, rfl, b, g, n + 4, rfl, BGa, by omega, fun zw Ga hzw Ba Ka => ?_⟩
      have hla := Ka _ _ (s18 _ _ hl) lo1 lo2
      have hwa := Ka _ _ (s18 _ _ hw) wo1 wo2
      have hpa := Ka _ _ h18 q1 q2
      have kta : KT b g H Ga := (kt.trans (KT.ofB (KeptB.of s18))).trans (KT.ofB Ka)
      have Ta : Tabs (LT t) Ga := Nm.Tabs.keptB (TG.ext s18) Ka BGa
      refine ⟨(by show 1 ≤ sizeLine; decide), fun p19 np19 => ?_⟩
      have s19 : Same Ga (L2.upd Ga p19 (.lst [.str zw])) := same_upd np19
      have h19 : L2.upd Ga p19 (.lst [.str zw]) p19 = some (.lst ([zw].map V.str)) := upd_same
      generalize L2.upd Ga p19 (.lst [.str zw]) = G19 at *
      have m1 := c18 1
      have m1l := cst_len (s := 1) (by decide) z18
      have m2 : cst 1 [zw] = zw.length + 1 := by rw [cst_cons, cst_nil]
      refine ⟨p18, p19, _, _, rfl, rfl, (s19 _ _ hpa), h19, (lenw (by omega) (by omega)), fun p20 np20 => ?_⟩
      generalize eG20 : L2.upd _ p20 _ = G20
      obtain ⟨s20, h20⟩ := cat_of eG20 np20
      clear eG20
      refine ⟨_, rfl, _, rfl, wh, rfl, lw, _, rfl, SqL.of ((s19.trans s20) _ _ hwa), fun p21 np21 => ?_⟩
      generalize eG21 : L2.upd _ p21 _ = G21
      obtain ⟨z21, s21, h21, c21⟩ := slice_of eG21 np21
      clear eG21
      have m3 := c21 1
      have m4 := cst_app 1 z18 [zw]
      refine ⟨p20, p21, _, _, rfl, rfl, (s21 _ _ h20), h21, (lenw (by omega) (by omega)), fun lw2 nlw2 => ?_⟩
      generalize eG22 : L2.upd _ lw2 _ = Gb
      obtain ⟨s22, hwb⟩ := cat_of eG22 nlw2
      clear eG22
      have sab : Same Ga Gb := (s19.trans (s20.trans (s21.trans s22)))
      have hlb := sab _ _ hla
      have Bb := Ba.same sab
      have Tb := Ta.ext sab
      have kb : KT b g H Gb := kta.trans (KT.ofB (KeptB.of sab))
      have cw : cst 1 (z18 ++ [zw] ++ z21) ≤ 2 * cst 1 ws + 61 := by rw [cst_app]; omega
      generalize (z18 ++ [zw] ++ z21) = ws2 at *
      refine ⟨⟨_, rfl⟩, ?_⟩
      refine ⟨_, rfl, _, rfl, (aj : Int), rfl, l, _, rfl, SqL.of hlb, fun p23 np23 => ?_⟩
      generalize eG23 : L2.upd _ p23 _ = G23
      obtain ⟨z23, s23, h23, c23⟩ := slice_of eG23 np23
      clear eG23
      refine ⟨⟨_, rfl⟩, _, rfl, ?_⟩
      refine ⟨_, lw2, _, rfl, rfl, .inl (SqL.of (s23 _ _ hwb)), (Nat.le_trans (show cst 1 _ ≤ 400000 by omega) (by decide)), ?_⟩
      have k0 : (Txt.join " " _).length ≤ _ := join_cst " " ws2
      have k0 : (Txt.join " " ws2).length ≤ cst 1 ws2 := k0
      generalize Txt.join " " ws2 = zj at *
      refine ⟨(by show 1 ≤ sizeLine; decide), fun p24 np24 => ?_⟩
      have s24 : Same _ (L2.upd _ p24 (.lst [.str zj])) := same_upd np24
      have h24 : L2.upd G23 p24 (.lst [.str zj]) p24 = some (.lst ([zj].map V.str)) := upd_same
      generalize L2.upd G23 p24 (.lst [.str zj]) = G24 at *
      have k1 := c23 3
      have k2 : cst 3 [zj] = zj.length + 3 := by rw [cst_cons, cst_nil]
      refine ⟨p23, p24, _, _, rfl, rfl, (s24 _ _ h23), h24, (lens (by omega) (by omega)), fun p25 np25 => ?_⟩
      generalize eG25 : L2.upd _ p25 _ = G25
      obtain ⟨s25, h25⟩ := cat_of eG25 np25
      clear eG25
      refine ⟨_, rfl, _, rfl, (aj : Int), 1, rfl, rfl, (aj : Int) + 1, rfl, l, _, rfl, SqL.of ((s23.trans (s24.trans s25)) _ _ hlb), fun p26 np26 => ?_⟩
      generalize eG26 : L2.upd _ p26 _ = G26
      obtain ⟨z26, s26, h26, c26⟩ := slice_of eG26 np26
      clear eG26
      have k4 := c26 3
      have k5 := cst_app 3 z23 [zj]
      refine ⟨p25, p26, _, _, rfl, rfl, (s26 _ _ h25), h26, (lens (by omega) (by omega)), fun p27 np27 => ?_⟩
      generalize eG27 : L2.upd _ p27 _ = G27
      obtain ⟨s27, h27⟩ := cat_of eG27 np27
      clear eG27
      refine jn h27 (by rw [cst_app]; omega) fun z2 hz2 => fin (kb.trans (KT.ofB (KeptB.of (s23.trans (s24.trans (s25.trans (s26.trans s27))))))) (Tb.ext (s23.trans (s24.trans (s25.trans (s26.trans s27))))) ((Bb.same (s23.trans (s24.trans (s25.trans (s26.trans s27))))).mono (by omega)) hz2
    refine ⟨_, rfl, rfl, _, rfl, ite2 (fun _ => ?_) (fun _ => ?_)⟩
    · skip
      refine ⟨_, rfl, (by show 7 ≤ sizeLine; decide), fun p28 np28 => ?_⟩
      generalize eG28 : L2.upd _ p28 _ = G28
      have s28 : Same G G28 := by rw [← eG28]; exact same_upd np28
      obtain ⟨X, wX, cX, hX⟩ : ∃ X, WL X ∧ X.length = 7 ∧ G28 p28 = some (.lst X) := by
        refine ⟨_, ?_, ?_, (by rw [← eG28]; exact upd_same)⟩
        · exact WL.of (by decide +kernel)
        · rfl
      clear eG28
      obtain ⟨q1, q2⟩ := BG.off (H2 := H) np28
      refine ⟨b, g, p28, n + 4, X, rfl, BG.same s28, by omega, hX, q1, q2, by omega, by omega, fun jx v Ga hv Ba Ka => ?_⟩
      obtain ⟨zw, rfl, hzw⟩ := wX v (List.mem_of_getElem? hv)
      have hla := Ka _ _ (s28 _ _ hl) lo1 lo2
      have kta : KT b g H Ga := (kt.trans (KT.ofB (KeptB.of s28))).trans (KT.ofB Ka)
      have Ta : Tabs (LT t) Ga := Nm.Tabs.keptB (TG.ext s28) Ka (BG.same s28)
      refine ⟨⟨_, rfl⟩, ?_⟩
      refine ⟨_, rfl, _, rfl, (aj : Int), rfl, l, _, rfl, SqL.of hla, fun p29 np29 => ?_⟩
      generalize eG29 : L2.upd _ p29 _ = G29
      obtain ⟨z29, s29, h29, c29⟩ := slice_of eG29 np29
      clear eG29
      refine ⟨_, rfl, ?_⟩
      refine ⟨(by show 1 ≤ sizeLine; decide), fun p30 np30 => ?_⟩
      have s30 : Same _ (L2.upd _ p30 (.lst [.str zw])) := same_upd np30
      have h30 : L2.upd G29 p30 (.lst [.str zw]) p30 = some (.lst ([zw].map V.str)) := upd_same
      generalize L2.upd G29 p30 (.lst [.str zw]) = G30 at *
      have k1 := c29 3
      have k2 : cst 3 [zw] = zw.length + 3 := by rw [cst_cons, cst_nil]
      refine ⟨p29, p30, _, _, rfl, rfl, (s30 _ _ h29), h30, (lens (by omega) (by omega)), fun p31 np31 => ?_⟩
      generalize eG31 : L2.upd _ p31 _ = G31
      obtain ⟨s31, h31⟩ := cat_of eG31 np31
      clear eG31
      refine ⟨_, rfl, _, rfl, (aj : Int), rfl, l, _, rfl, SqL.of ((s29.trans (s30.trans s31)) _ _ hla), fun p32 np32 => ?_⟩
      generalize eG32 : L2.upd _ p32 _ = G32
      obtain ⟨z32, s32, h32, c32⟩ := slice_of eG32 np32
      clear eG32
      have k4 := c32 3
      have k5 := cst_app 3 z29 [zw]
      refine ⟨p31, p32, _, _, rfl, rfl, (s32 _ _ h31), h32, (lens (by omega) (by omega)), fun p33 np33 => ?_⟩
      generalize eG33 : L2.upd _ p33 _ = G33
      obtain ⟨s33, h33⟩ := cat_of eG33 np33
      clear eG33
      refine jn h33 (by rw [cst_app]; omega) fun z2 hz2 => fin (kta.trans (KT.ofB (KeptB.of (s29.trans (s30.trans (s31.trans (s32.trans s33))))))) (Ta.ext (s29.trans (s30.trans (s31.trans (s32.trans s33))))) ((Ba.same (s29.trans (s30.trans (s31.trans (s32.trans s33))))).mono (by omega)) hz2
    refine ⟨_, rfl, rfl, _, rfl, ite2 (fun _ => ?_) (fun _ => ?_)⟩
    · refine ⟨_, rfl, _, rfl, pl, rfl, z, rfl, hsz, ?_⟩
      have y1 := cutS_length z none (some pl)
      generalize cutS z none (some pl) = x1 at *
      refine ⟨_, rfl, (by show 11 ≤ sizeLine; decide), fun p34 np34 => ?_⟩
      generalize eG34 : L2.upd _ p34 _ = G34
      have s34 : Same G G34 := by rw [← eG34]; exact same_upd np34
      obtain ⟨X, wX, cX, hX⟩ : ∃ X, WL X ∧ X.length = 11 ∧ G34 p34 = some (.lst X) := by
        refine ⟨_, ?_, ?_, (by rw [← eG34]; exact upd_same)⟩
        · exact WL.of (by decide +kernel)
        · rfl
      clear eG34
      obtain ⟨q1, q2⟩ := BG.off (H2 := H) np34
      refine ⟨b, g, p34, n + 4, X, rfl, BG.same s34, by omega, hX, q1, q2, by omega, by omega, fun jx v Ga hv Ba Ka => ?_⟩
      obtain ⟨zw, rfl, hzw⟩ := wX v (List.mem_of_getElem? hv)
      have hla := Ka _ _ (s34 _ _ hl) lo1 lo2
      have kta : KT b g H Ga := (kt.trans (KT.ofB (KeptB.of s34))).trans (KT.ofB Ka)
      have Ta : Tabs (LT t) Ga := Nm.Tabs.keptB (TG.ext s34) Ka (BG.same s34)
      refine ⟨_, _, rfl, rfl, size_ok (by omega), ?_⟩
      refine ⟨_, rfl, _, rfl, pl, rfl, z, rfl, hsz, ?_⟩
      have y2 := cutS_length z (some pl) none
      generalize cutS z (some pl) none = x2 at *
      have y3 := Str.length_append x1 zw
      refine ⟨_, _, rfl, rfl, size_ok (by omega), ?_⟩
      exact fin kta Ta (Ba.mono (by omega)) (by rw [Str.length_append]; omega)
    refine ⟨_, rfl, rfl, _, rfl, ite2 (fun _ => ?_) (fun _ => ?_)⟩
    · refine ⟨_, rfl, _, rfl, pl, rfl, z, rfl, hsz, ?_⟩
      have y1 := cutS_length z none (some pl)
      generalize cutS z none (some pl) = x1 at *
      refine ⟨_, rfl, _, rfl, pl, 1, rfl, rfl, pl + 1, rfl, z, rfl, hsz, ?_⟩
      have y2 := cutS_length z (some (pl + 1)) none
      generalize cutS z (some (pl + 1)) none = x2 at *
      refine ⟨_, _, rfl, rfl, size_ok (by omega), ?_⟩
      exact fins (Same.refl _) (by rw [Str.length_append]; omega)
    refine ⟨_, rfl, b, g, n + 4, 8, rfl, BG, by omega, by decide, by decide, TG, fun D G1 ts cv len8 kt1 T1 B1 ds => ?_⟩
    refine ⟨.ref D, ts, _, rfl, DS.toE ds, cv.1, by omega, fun zm G2 s2 ezm hzm => ?_⟩
    refine ⟨_, rfl, _, rfl, _, _, rfl, rfl, size_ok (by show z.length + 3 ≤ _; omega), ?_⟩
    refine ⟨_, rfl, _, _, rfl, rfl, size_ok (by rw [Str.length_append]; show z.length + 3 + zm.length ≤ _; omega), ?_⟩
    refine ⟨_, rfl, _, _, rfl, rfl, size_ok (by show 1 + z.length ≤ _; omega), ?_⟩
    refine ⟨_, rfl, _, rfl, (show z.length + (z.length + 1) * 3 ≤ 16777216 by omega), ?_⟩
    refine ⟨_, rfl, _, _, rfl, rfl, size_ok (by show 1 + z.length ≤ _; omega), ?_⟩
    have hrp : (Txt.replace z " - " " + ").length ≤ z.length + (z.length + 1) * 3 := TK.replace_len z " - " " + "
    generalize Txt.replace z " - " " + " = zr at *
    have l1 : (z ++ (" + " : Str) ++ zm).length ≤ 4 * z.length + 5000 := by
      rw [Str.length_append, Str.length_append]
      show z.length + 3 + zm.length ≤ _
      omega
    have l2 : (("-" : Str) ++ z).length ≤ 4 * z.length + 5000 := by
      rw [Str.length_append]
      show 1 + z.length ≤ _
      omega
    have l3 : ((" " : Str) ++ z).length ≤ 4 * z.length + 5000 := by
      rw [Str.length_append]
      show 1 + z.length ≤ _
      omega
    refine ⟨(by show 4 ≤ sizeLine; decide), fun p np => ?_⟩
    generalize eG : L2.upd _ p _ = G3
    have s3 : Same G2 G3 := by rw [← eG]; exact same_upd np
    have hp3 : G3 p = some (.lst [.str (z ++ (" + " : Str) ++ zm), .str (("-" : Str) ++ z), .str zr, .str ((" " : Str) ++ z)]) := by rw [← eG]; exact upd_same
    clear eG
    have B2 := B1.same s2
    obtain ⟨q1, q2⟩ := B2.off (H2 := H) np
    have k3 : KT b g H G3 := (kt.trans kt1).trans (KT.ofB (KeptB.of (s2.trans s3)))
    refine ⟨b, g, p, n + 4 + 500, _, rfl, B2.same s3, by omega, hp3, q1, q2, by show 0 < 4; decide, by show 4 ≤ 1000; decide, fun jx v Ga hv Ba Ka => ?_⟩
    have Ta : Tabs (LT t) Ga := Nm.Tabs.keptB (T1.ext (s2.trans s3)) Ka (B2.same s3)
    have ok : ∀ z' : Str, v = .str z' → z'.length ≤ 4 * z.length + 5000 → Q v Ga := fun z' e h => by
      subst e
      exact fin (k3.trans (KT.ofB Ka)) Ta (Ba.mono (by omega)) h
    have hm := List.mem_of_getElem? hv
    rcases List.mem_cons.mp hm with e | hm
    · exact ok _ e l1
    rcases List.mem_cons.mp hm with e | hm
    · exact ok _ e l2
    rcases List.mem_cons.mp hm with e | hm
    · exact ok _ e (by omega)
    · exact ok _ (List.mem_singleton.mp hm) l3

end
end Nm

/-! law. -/
namespace Nm
open PySem PySem.Spec PyProof.Rows L2 LamX TL
abbrev sLaw4 : Stmt := topS 67
theorem ok_tr {t : Tm} (h : TmOk t) : TR t := by
  obtain ⟨⟨c1, c2, c3, c4, c5⟩, ⟨q1, q2, q3, q4, q5⟩, k1, k2⟩ := h
  refine ⟨⟨?_, c2, ?_, ?_, c5⟩, ⟨k1, k2⟩, q1, q2, q3, q4, q5⟩
  · show (0 : Int) < (t.1.1.natAbs : Int)
    omega
  · show Int.gcd (t.1.1.natAbs : Int) t.1.2 = 1
    rw [← c3]
    unfold Int.gcd
    rw [Int.natAbs_natCast]
  · show (t.1.1.natAbs : Int) < 10 ^ 30
    omega
open Classical in
theorem rd_len : ∀ (L : List (Sg × Bool)) (i : Nat) (made ts : List T4), made.length = i → i ≤ 8 → rdGo i made L = .inr ts → ts.length ≤ 8
  | [], i, made, ts, h, h8, e => by
    have e : Sum.inr made = (Sum.inr ts : Sum Nat (List T4)) := e
    injection e with e
    rw [← e, h]
    exact h8
  | p :: r, i, made, ts, h, h8, e => by
    have e : (match one4 i p with | none => .inl i | some t => if i = 8 ∨ ¬ ok4 made t then .inl i else rdGo (i + 1) (made ++ [t]) r) = (Sum.inr ts : Sum Nat (List T4)) := e
    cases e4 : one4 i p with
    | none => rw [e4] at e; cases e
    | some t =>
      rw [e4] at e
      dsimp only at e
      by_cases c : i = 8 ∨ ¬ ok4 made t
      · rw [if_pos c] at e; cases e
      · rw [if_neg c] at e
        exact rd_len r (i + 1) (made ++ [t]) ts (by rw [List.length_append, h]; rfl) (by omega) e
theorem readF_len {l : Sg} {ts : List T4} (h : readF l = .inr ts) : ts.length ≤ 8 := by
  unfold readF at h
  split at h
  · injection h with h
    rw [← h]
    exact Nat.zero_le _
  · exact rd_len _ 0 [] ts rfl (Nat.zero_le _) h
theorem rdOf_len {d : PyData} {ts : List T4} (h : rdOf d = .inr ts) : ts.length ≤ 8 := by
  cases d with
  | str z =>
    have h : (match readF (tl z) with | .inl i => (.inl (i : Nat) : Sum Int (List T4)) | .inr ts => .inr ts) = .inr ts := h
    cases e : readF (tl z) with
    | inl i => rw [e] at h; cases h
    | inr us =>
      rw [e] at h
      injection h with h
      rw [← h]
      exact readF_len e
  | _ => cases h
/-- no place of the bag -/
def DB (b g : Addr) : Addr → Prop := fun a => a ≠ b ∧ a ≠ g
section
variable {K : PySem.W.Frag} {b g : Addr} {H H' : Hp} {v : V} {d : PyData}
theorem DE.kt (k : KT b g H H') (x : DE K (DB b g) H v d) : DE K (DB b g) H' v d := DE.keep (fun a o sa n h => ⟨sa, k a o h sa.1 sa.2 n⟩) x
theorem DE.tt (x : DE K (DB b g) H v d) : DE K Tt H v d := DE.keep (fun a o _ _ h => ⟨True.intro, h⟩) x
theorem DE.ofNone {n : Nat} (B : BagAt H b g n) (x : DE K (fun a => H a = none) H' v d) : DE K (DB b g) H' v d := DE.keep (fun a o sa _ h => ⟨B.off (H2 := H) sa, h⟩) x
theorem dp_told {p : Addr} {x : V} {ts : List Tm} {S : Addr → Prop} (hp : H p = some (.tup [.str "told", x])) (h : DE K S H x (cvD ts)) : Dp K H (.ref p) (toldD ts) := .tup (SqT.of hp) (.cons (.str _) (.cons (de_cv h) .nil))
end
def Mx4 : Nat → Nat | 0 => 4000 | n + 1 => 4 * Mx4 n + 5000
section
variable {P : Program} {w : World} {K : PySem.W.Frag} {mg : Str → Option Value} {base : Heap}
structure Lw4T (P : Program) (w : World) (K : PySem.W.Frag) (mg : Str → Option Value) (base : Heap) (t : Addr) where
  fG : Addr
  fdG : FuncData
  fP : Addr
  fdP : FuncData
  fE : Addr
  fdE : FuncData
  fV : Addr
  fdV : FuncData
  fX : Addr
  fdX : FuncData
  fS : Addr
  fdS : FuncData
  fT : Addr
  fdT : FuncData
  fD : Addr
  fdD : FuncData
  fB : Addr
  fdB : FuncData
  fR : Addr
  fdR : FuncData
  FG : FnOk P w K mg base CX0 1 fG fdG ["_law_script"] (spBag K)
  FP : FnOk P w K mg base CX0 1 fP fdP ["_law_bag_here", "_law_many"] spPick
  FE : FnOk P w K mg base CX0 2 fE fdE ["_law_bag_here", "_law_things"] spSome
  FV : FnOk P w K mg base CX0 4 fV fdV ["_law_bag_here", "_law_size"] (spCurve (LT t))
  FX : FnOk P w K mg base CX0 3 fX fdX ["_law_terms_here"] (spLText K)
  FS : FnOk P w K mg base CX0 6 fS fdS ["_law_thing", "_law_due"] (spIs K 6)
  FT : FnOk P w K mg base CX0 9 fT fdT ["_law_text_here"] (spLRead K)
  FR : FnOk P w K mg base CX0 5 fR fdR ["_law_text_here"] (spLRead K)
  FD : FnOk P w K mg base CX0 1 fD fdD [] spDeep
  FB : FnOk P w K mg base CX0 5 fB fdB ["_law_bag_here", "_law_text_here"] (spBent4 (LT t))
  bG : Binds K fdG ["_law_script"] []
  bP : Binds K fdP ["_law_bag_here", "_law_many"] []
  bE : Binds K fdE ["_law_bag_here", "_law_things"] []
  bV : Binds K fdV ["_law_bag_here", "_law_size"] []
  bX : Binds K fdX ["_law_terms_here"] []
  bS : Binds K fdS ["_law_thing", "_law_due"] []
  bT : Binds K fdT ["_law_text_here"] []
  bR : Binds K fdR ["_law_text_here"] []
  bD : Binds K fdD [] []
  bB : Binds K fdB ["_law_bag_here", "_law_text_here"] []
  gG : mg "_law_bag" = some (.ref fG)
  gP : mg "_law_pick" = some (.ref fP)
  gE : mg "_law_some" = some (.ref fE)
  gV : mg "_law_curve" = some (.ref fV)
  gX : mg "_law_text" = some (.ref fX)
  gS : mg "_law_is" = some (.ref fS)
  gT : mg "_law_told" = some (.ref fT)
  gR : mg "_law_read" = some (.ref fR)
  gD : mg "_law_deep" = some (.ref fD)
  gB : mg "_law_bent" = some (.ref fB)
  kG : PySem.W.keepIn K (.ref fG) = true
  kP : PySem.W.keepIn K (.ref fP) = true
  kE : PySem.W.keepIn K (.ref fE) = true
  kV : PySem.W.keepIn K (.ref fV) = true
  kX : PySem.W.keepIn K (.ref fX) = true
  kS : PySem.W.keepIn K (.ref fS) = true
  kT : PySem.W.keepIn K (.ref fT) = true
  kR : PySem.W.keepIn K (.ref fR) = true
  kD : PySem.W.keepIn K (.ref fD) = true
  kB : PySem.W.keepIn K (.ref fB) = true
  str : mg "str" = none
  range : mg "range" = none
def spLaw4 (K : PySem.W.Frag) (T : List (Addr × Str)) : Sp := fun vs H Q _ => ∃ (a : Addr) (ns : List Int), vs = [.ref a] ∧ SqL K H a (ns.map V.int) ∧ ns.length ≤ 63 ∧ Tabs T H ∧ ∀ H', Q (.bl true) H'
theorem scLaw4 : FnScope ["_law_script", "_law_bag_here", "_law_turn", "_law_right", "_law_again", "_law_text_here", "_law_change"] ["_law_script"] (defScope sLaw4) := ⟨rfl, rfl, rfl, by decide +kernel, rfl, by decide +kernel, by decide +kernel⟩
theorem ok_law4 {f t : Addr} {fd : FuncData} (F : Fun K "law" "law" sLaw4 f fd) (J : JudT mg) (T : Lw4T P w K mg base t) : FnOk P w K mg base CX0 10 f fd ["_law_script"] (spLaw4 K (LT t)) := by
  refine F.ok scLaw4 (fun vs H Q E h => ?_) (fun cdv A outer s H vs Q E hr h => ?_)
  · obtain ⟨a, ns, rfl, _⟩ := h
    rfl
  · obtain ⟨a, ns, rfl, hS, hlen, hT, q⟩ := h
    have hr6 : Room 6 _ := hr.mono (by decide)
    have hr5 : Room 5 _ := hr.mono (by decide)
    have hr4 : Room 4 _ := hr.mono (by decide)
    have hr3 : Room 3 _ := hr.mono (by decide)
    have hr2 : Room 2 _ := hr.mono (by decide)
    have hr1 : Room 1 _ := hr.mono (by decide)
    refine ⟨_, pss_cons (ps_set (i := 1) scLaw4.nd rfl (.inl rfl) (pe_call T.FG hr1 (by rfl) T.gG T.kG T.bG .nil pass0 (pa_cons (pv 0) pa_nil)))
      (pss_cons (ps_for PassesOwn.never rfl (pi_range1 rfl T.range (pa_cons pe_int pa_nil)) (pg_name (i := 2) scLaw4.nd rfl (Or.inl rfl))
        (pss_cons (ps_set (i := 3) scLaw4.nd rfl (.inl rfl) (pe_call T.FX hr3 (by rfl) T.gX T.kX T.bX .nil pass0 (pa_cons (pe_call T.FV hr4 (by rfl) T.gV T.kV T.bV .nil pass0 (pa_cons (pv 1) (pa_cons pe_int pa_nil))) pa_nil)))
        (pss_cons (ps_if (pt_cmpR op_ne (pe_ix ix_tup (pe_call T.FR hr5 (by rfl) T.gR T.kR T.bR .nil pass0 (pa_cons (pv 3) pa_nil)) pe_int (fun _ _ => rfl)) pe_str (nomark _)) (pss_one (ps_ret pe_bl)) pss_nil)
        (pss_one (ps_for PassesOwn.never rfl (pi_range1 rfl T.range (pa_cons pe_int pa_nil)) (pg_name (i := 4) scLaw4.nd rfl (Or.inl rfl))
          (pss_cons (ps_set (i := 5) scLaw4.nd rfl (.inl rfl) (pv 3))
          (pss_cons (ps_for PassesOwn.never rfl (pi_range1 rfl T.range (pa_cons (pe_call T.FP hr1 (by rfl) T.gP T.kP T.bP .nil pass0 (pa_cons (pv 1) (pa_cons pe_int pa_nil))) pa_nil)) (pg_name (i := 6) scLaw4.nd rfl (Or.inl rfl))
            (pss_one (ps_set (i := 5) scLaw4.nd rfl (.inl rfl) (pe_call T.FB hr5 (by rfl) T.gB T.kB T.bB .nil pass0 (pa_cons (pv 1) (pa_cons (pv 5) pa_nil))))))
          (pss_cut (ps_if (pt_cmpR op_eq (pe_call T.FP hr1 (by rfl) T.gP T.kP T.bP .nil pass0 (pa_cons (pv 1) (pa_cons pe_int pa_nil))) pe_int (nomark _))
            (pss_one (ps_set (i := 5) scLaw4.nd rfl (.inl rfl) (pe_call T.FE hr2 (by rfl) T.gE T.kE T.bE .nil pass0 (pa_cons (pv 1) (pa_cons (pe_lst (pa_cons pe_non (pa_cons pe_int (pa_cons (pe_lst (pa_cons (pv 3) pa_nil)) (pa_cons (pe_tup (pa_cons (pv 3) pa_nil)) (pa_cons pe_dnewK (pa_cons pe_bl
              (pa_cons (pe_call0 T.FD hr1 (by rfl) T.gD T.kD T.bD .nil pass0) (pa_cons pe_str (pa_cons pe_str (pa_cons pe_str (pa_cons pe_str (pa_cons pe_str pa_nil))))))))))))) pa_nil))))) pss_nil)
          (pss_cut (ps_if (PW.pt (pw_and (pt_val (pe_callB call_isi (by rfl) J.isi (by decide +kernel) (pa_cons (pv 5) (pa_cons (pe_bltn (v := .ty "str") (by rfl) T.str (by decide +kernel) rfl) pa_nil)))) (pw_and1 (pt_cmpR op_gt (pe_callB call_len_str (by rfl) J.len PySem.boot_len (pa_cons (pv 5) pa_nil)) pe_int (nomark _)))))
            (pss_one (ps_set (i := 5) scLaw4.nd rfl (.inl rfl) (pv 3))) pss_nil)
          (pss_one (ps_if (pt_not (pt_val (pe_call T.FS hr6 (by rfl) T.gS T.kS T.bS .nil pass0 (pa_cons (pe_call T.FT hr (by rfl) T.gT T.kT T.bT .nil pass0 (pa_cons (pv 5) pa_nil)) (pa_cons (pe_call T.FR hr5 (by rfl) T.gR T.kR T.bR .nil pass0 (pa_cons (pv 5) pa_nil)) pa_nil))))) (pss_one (ps_ret pe_bl)) pss_nil)))))))))))
      (pss_one (ps_ret pe_bl))), ?_⟩
    refine ⟨_, rfl, a, ns, rfl, hS, hlen, fun b g H1 sm1 _ _ B1 => ?_⟩
    refine ⟨3, rfl, by decide, by decide, for_range (n := 3) (fun i σ H2 => ∃ (y2 y3 y4 y5 y6 : Option V), σ = [some (.ref a), some (.ref b), y2, y3, y4, y5, y6] ∧ Tabs (LT t) H2 ∧ BagAt H2 b g (1 + 200000 * i)) ⟨none, none, none, none, none, rfl, hT.ext sm1, B1⟩ ?_ ?_⟩
    · rintro i σ H2 hi ⟨y2, y3, y4, y5, y6, rfl, tab2, B2⟩
      refine ⟨_, rfl, b, g, _, 8, rfl, B2, by omega, by decide, by decide, tab2, fun D1 H3 ts cv1 len1 kt3 tab3 B3 ds1 => ?_⟩
      have l1 : ts.length ≤ 8 := by omega
      refine ⟨.ref D1, ts, _, rfl, DS.toE ds1, cv1.1, l1, fun zr H4 s4 ezr hzr => ?_⟩
      have er : rdOf (.str zr) = .inr ts := by
        show (match readF (tl zr) with | .inl i => (.inl (i : Nat) : Sum Int (List T4)) | .inr ts => .inr ts) = .inr ts
        rw [ezr, read_text (fun u hu => ok_tr (cv1.1 u hu)) cv1.2 l1]
      have B4 := B3.same s4
      have tab4 := tab3.ext s4
      refine ⟨_, rfl, .str zr, .str zr, rfl, .str zr, (fun z e => by injection e with e; subst e; omega), (fun j e => by rw [er] at e; cases e), fun us e p v H5 s5 np hp hv => ?_⟩
      refine ⟨p, _, 0, .str "told", rfl, rfl, SqT.of hp, rfl, rfl, _, rfl, ?_⟩
      refine iteF ?_
      have B5 := B4.same s5
      have tab5 := tab4.ext s5
      clear hp hv np s4 s5 ds1 kt3 B3 B4 tab3 tab4 e er ezr
      refine ⟨10, rfl, by decide, by decide, for_range (n := 10) (fun k σ G => ∃ (y4 y5 y6 : Option V), σ = [some (.ref a), some (.ref b), some (.int (0 + i)), some (.str zr), y4, y5, y6] ∧ Tabs (LT t) G ∧ BagAt G b g (1 + 200000 * i + 1000 + 10000 * k))
        ⟨_, _, _, rfl, tab5, B5.mono (by omega)⟩ ?_ ?_⟩
      · rintro k σ G hk ⟨y4, y5, y6, rfl, tabG, BG⟩
        refine ⟨_, rfl, ?_⟩
        refine ⟨_, rfl, b, g, _, 4, rfl, BG, by omega, by decide, by decide +kernel, fun r G1 r0 r1 BG1 KG1 => ?_⟩
        refine ⟨r, rfl, by omega, by omega, for_range (n := r.toNat) (fun c σ H2 => ∃ (y6 : Option V) (z : Str), σ = [some (.ref a), some (.ref b), some (.int (0 + i)), some (.str zr), some (.int (0 + k)), some (.str z), y6] ∧ Tabs (LT t) H2 ∧ BagAt H2 b g (1 + 200000 * i + 1000 + 10000 * k + 1 + 1000 * c) ∧ z.length ≤ Mx4 c)
          ⟨_, zr, rfl, Nm.Tabs.keptB tabG KG1 BG, BG1, hzr⟩ ?_ ?_⟩
        · rintro c σ G2 hc ⟨y6, z, rfl, tab2', BG2, hz⟩
          have hM : Mx4 c ≤ 90000 := by
            have : c = 0 ∨ c = 1 ∨ c = 2 := by omega
            rcases this with rfl | rfl | rfl <;> decide
          refine ⟨_, rfl, _, rfl, b, g, _, z, rfl, BG2, by omega, by omega, tab2', fun z' G3 hz' kt' tab3' BG3 => ?_⟩
          refine ⟨_, z', rfl, tab3', BG3.mono (by omega), ?_⟩
          show z'.length ≤ 4 * Mx4 c + 5000
          omega
        · rintro σ G2 ⟨y6, z, rfl, tab2', BG2, hz⟩
          have hM : Mx4 r.toNat ≤ 400000 := by
            have : r.toNat = 0 ∨ r.toNat = 1 ∨ r.toNat = 2 ∨ r.toNat = 3 := by omega
            rcases this with e | e | e | e <;> rw [e] <;> decide
          have hz := Nat.le_trans hz hM
          have BG2 := BG2.mono (show _ ≤ 1 + 200000 * i + 1000 + 10000 * k + 5000 by omega)
          refine ⟨fun σ G3 => ∃ v d, σ = [some (.ref a), some (.ref b), some (.int (0 + i)), some (.str zr), some (.int (0 + k)), some v, y6] ∧ Tabs (LT t) G3 ∧ BagAt G3 b g (1 + 200000 * i + 1000 + 10000 * k + 5010) ∧ DE K (DB b g) G3 v d ∧ ∀ z', d = .str z' → z'.length ≤ 400000, ?_, ?_⟩
          · refine ⟨_, rfl, b, g, _, 16, rfl, BG2, by omega, by decide, by decide +kernel, fun r2 G3 _ _ BG3 KG3 => ?_⟩
            have tab3' := Nm.Tabs.keptB tab2' KG3 BG2
            refine ⟨rfl, _, rfl, ?_⟩
            refine ite2 (fun _ => ?_) (fun _ => ?_)
            · refine ⟨_, rfl, _, rfl, (by show 1 ≤ sizeLine; decide), fun p1 np1 => ?_⟩
              have s1 : Same G3 (L2.upd G3 p1 (.lst [.str zr])) := same_upd np1
              have h1 : L2.upd G3 p1 (.lst [.str zr]) p1 = some (.lst [.str zr]) := upd_same
              obtain ⟨a1, a2⟩ := BG3.off (H2 := H) np1
              generalize L2.upd G3 p1 (.lst [.str zr]) = G4 at *
              refine ⟨_, rfl, (by show 1 ≤ sizeLine; decide), fun p2 np2 => ?_⟩
              have s2 : Same G4 (L2.upd G4 p2 (.tup [.str zr])) := same_upd np2
              have h2 : L2.upd G4 p2 (.tup [.str zr]) p2 = some (.tup [.str zr]) := upd_same
              obtain ⟨b1, b2⟩ := (BG3.same s1).off (H2 := H) np2
              generalize L2.upd G4 p2 (.tup [.str zr]) = G5 at *
              intro p3 np3
              have s3 : Same G5 (L2.upd G5 p3 (.dK [])) := same_upd np3
              have h3 : L2.upd G5 p3 (.dK []) p3 = some (.dK []) := upd_same
              obtain ⟨d1, d2⟩ := ((BG3.same s1).same s2).off (H2 := H) np3
              generalize L2.upd G5 p3 (.dK []) = G6 at *
              have B6 := ((BG3.same s1).same s2).same s3
              refine ⟨rfl, fun vd G7 s7 dd => ?_⟩
              refine ⟨(by show 12 ≤ sizeLine; decide), fun p np => ?_⟩
              generalize eG : L2.upd _ p _ = G8
              have s8 : Same G7 G8 := by rw [← eG]; exact same_upd np
              obtain ⟨X, eX, hX⟩ : ∃ X : List V, X = [.non, .int 0, .ref p1, .ref p2, .ref p3, .bl true, vd, .str "", .str "0", .str "-0", .str "0 + 1", .str " "] ∧ G8 p = some (.lst X) := ⟨_, rfl, by rw [← eG]; exact upd_same⟩
              clear eG
              have B7 := B6.same s7
              obtain ⟨q1, q2⟩ := B7.off (H2 := H) np
              refine ⟨b, g, p, _, X, rfl, B7.same s8, by omega, hX, q1, q2, by rw [eX]; show 0 < 12; decide, by rw [eX]; show 12 ≤ 1000; decide, fun jx v Ga hv Ba Ka => ?_⟩
              have Ta : Tabs (LT t) Ga := Nm.Tabs.keptB (tab3'.ext (s1.trans (s2.trans (s3.trans (s7.trans s8))))) Ka (B7.same s8)
              have dd8 : DE K (DB b g) G8 vd (deepD 11) := DE.same s8 (DE.ofNone B6 (DS.toE dd))
              have at1 := (s2.trans (s3.trans (s7.trans s8))) _ _ h1
              have at2 := (s3.trans (s7.trans s8)) _ _ h2
              have at3 := (s7.trans s8) _ _ h3
              have one : ∀ z' : Str, DEs K (DB b g) G8 [.str z'] [.str z'] := fun z' => .cons (.str z') .nil
              have fin : ∀ d, DE K (DB b g) G8 v d → (∀ z', d = .str z' → z'.length ≤ 400000) → ∃ v' d', [some (V.ref a), some (.ref b), some (.int (0 + i)), some (.str zr), some (.int (0 + k)), some v, y6] = [some (.ref a), some (.ref b), some (.int (0 + i)), some (.str zr), some (.int (0 + k)), some v', y6] ∧ Tabs (LT t) Ga ∧ BagAt Ga b g (1 + 200000 * i + 1000 + 10000 * k + 5010) ∧ DE K (DB b g) Ga v' d' ∧ ∀ z', d' = .str z' → z'.length ≤ 400000 := fun d h1 h2 =>
                ⟨v, d, rfl, Ta, Ba.mono (by omega), DE.kt (KT.ofB Ka) h1, h2⟩
              have hm := List.mem_of_getElem? hv
              rw [eX] at hm
              simp only [List.mem_cons, List.not_mem_nil, or_false] at hm
              have lit : ∀ z' : Str, v = .str z' → z'.length ≤ 400000 → _ := fun z' e h => fin (.str z') (by rw [e]; exact .str z') (fun z'' e => by injection e with e; rw [← e]; exact h)
              rcases hm with e | e | e | e | e | e | e | e | e | e | e | e
              · exact fin .none (by rw [e]; exact .non) (fun _ z => nomatch z)
              · exact fin (.int 0) (by rw [e]; exact .int 0) (fun _ z => nomatch z)
              · exact fin (.list [.str zr]) (by rw [e]; exact .lst ⟨a1, a2⟩ at1 (one zr)) (fun _ z => nomatch z)
              · exact fin (.tuple [.str zr]) (by rw [e]; exact .tup (.inl ⟨⟨b1, b2⟩, at2⟩) (one zr)) (fun _ z => nomatch z)
              · exact fin (.dict []) (by rw [e]; exact .dic ⟨d1, d2⟩ at3) (fun _ z => nomatch z)
              · exact fin (.bool true) (by rw [e]; exact .bl true) (fun _ z => nomatch z)
              · exact fin (deepD 11) (by rw [e]; exact dd8) (fun _ z => nomatch z)
              · exact lit _ e (by decide +kernel)
              · exact lit _ e (by decide +kernel)
              · exact lit _ e (by decide +kernel)
              · exact lit _ e (by decide +kernel)
              · exact lit _ e (by decide +kernel)
            · exact ⟨.str z, .str z, rfl, tab3', BG3.mono (by omega), .str z, fun z' e => by injection e with e; rw [← e]; exact hz⟩
          rintro σ G3 ⟨v, d, rfl, tab3', BG3, hd, hlen3⟩
          refine ⟨fun σ G4 => ∃ v d, σ = [some (.ref a), some (.ref b), some (.int (0 + i)), some (.str zr), some (.int (0 + k)), some v, y6] ∧ G4 = G3 ∧ DE K Tt G3 v d ∧ ∀ z', d = .str z' → z'.length ≤ 90000, ?_, ?_⟩
          · have hd' := DE.tt hd
            refine ⟨_, rfl, _, _, _, _, _, rfl, .ty "str", de_ty hd', kit_s d, _, rfl, ?_⟩
            cases hd' with
            | str z' =>
              refine iteT ?_
              refine ⟨_, rfl, z', rfl, size_ok (Nat.le_trans (hlen3 z' rfl) (by decide)), (z'.length : Int), 2000, rfl, rfl, _, rfl, ?_⟩
              refine ite2 (fun _ => ?_) (fun c => ?_)
              · exact ⟨_, rfl, .str zr, .str zr, rfl, rfl, .str zr, fun z'' e => by injection e with e; rw [← e]; omega⟩
              · have c : ¬ (2000 : Int) < (z'.length : Int) := fun y => c (decide_eq_true y)
                exact ⟨.str z', .str z', rfl, rfl, .str z', fun z'' e => by injection e with e; rw [← e]; omega⟩
            | non => exact iteF ⟨_, _, rfl, rfl, .non, fun _ z => nomatch z⟩
            | bl b => exact iteF ⟨_, _, rfl, rfl, .bl b, fun _ z => nomatch z⟩
            | int j => exact iteF ⟨_, _, rfl, rfl, .int j, fun _ z => nomatch z⟩
            | tup x y => exact iteF ⟨_, _, rfl, rfl, .tup x y, fun _ z => nomatch z⟩
            | lst x y w => exact iteF ⟨_, _, rfl, rfl, .lst x y w, fun _ z => nomatch z⟩
            | dic x y => exact iteF ⟨_, _, rfl, rfl, .dic x y, fun _ z => nomatch z⟩
          clear hd hlen3
          rintro σ G4 ⟨v, d, rfl, rfl, hd, hlen3⟩
          have next : ∀ G5, Same G4 G5 → Tabs (LT t) G5 ∧ BagAt G5 b g (1 + 200000 * i + 1000 + 10000 * (k + 1)) := fun G5 s => ⟨tab3'.ext s, (BG3.same s).mono (by omega)⟩
          cases e : rdOf d with
          | inl j =>
            refine ⟨_, rfl, v, d, rfl, hd, hlen3, (fun j' e' G5 s5 => ?_), fun us e' => by rw [e] at e'; cases e'⟩
            rw [e] at e'
            injection e' with e'
            subst e'
            refine ⟨_, rfl, v, d, rfl, DE.same s5 hd, hlen3, (fun j' e' G6 s6 => ?_), fun us e' => by rw [e] at e'; cases e'⟩
            rw [e] at e'
            injection e' with e'
            subst e'
            have sh : SeqAt.shaped (.int j) = true := rfl
            refine ⟨_, _, rfl, .inl ⟨.int j, .int j, .int j, .int j, sh, sh, rfl, show (0 : Nat) < 6 by decide, fun G7 s7 => ⟨_, rfl, ?_⟩⟩⟩
            rw [isD_refl sh]
            refine iteF ?_
            obtain ⟨n1, n2⟩ := next G7 ((s5.trans s6).trans s7)
            exact ⟨_, _, _, rfl, n1, n2⟩
          | inr us =>
            have lu := rdOf_len e
            refine ⟨_, rfl, v, d, rfl, hd, hlen3, (fun j' e' => by rw [e] at e'; cases e'), fun us' e' p3 v3 G5 s5 np3 hp3 hv3 => ?_⟩
            rw [e] at e'
            injection e' with e'
            subst e'
            refine ⟨_, rfl, v, d, rfl, DE.same s5 hd, hlen3, (fun j' e' => by rw [e] at e'; cases e'), fun us' e' p4 v4 G6 s6 np4 hp4 hv4 => ?_⟩
            rw [e] at e'
            injection e' with e'
            subst e'
            refine ⟨_, _, rfl, .inl ⟨toldD us, toldD us, dp_told (s6 _ _ hp3) (DE.same s6 hv3), dp_told hp4 hv4, sh_told us, sh_told us, small_told lu, dep_told us, fun G7 s7 => ⟨_, rfl, ?_⟩⟩⟩
            rw [isD_refl (sh_told us)]
            refine iteF ?_
            obtain ⟨n1, n2⟩ := next G7 ((s5.trans s6).trans s7)
            exact ⟨_, _, _, rfl, n1, n2⟩
      · rintro σ G ⟨y4, y5, y6, rfl, tabG, BG⟩
        exact ⟨_, _, _, _, _, rfl, tabG, BG.mono (by omega)⟩
    · rintro σ H2 ⟨y2, y3, y4, y5, y6, rfl, tab2, B2⟩
      exact q _
end
end Nm

/-! The end: what the top has written, and the head. -/
namespace Nm
open PySem PySem.Spec PyProof.Rows L2 LamX TL
abbrev vEr : List Value := [.type "ValueError", .type "Exception", .type "BaseException", .type "object"]
def xtB (K : PySem.W.Frag) (C : Addr) : Bool :=
  PySem.W.isClsIn K C && (decide (PySem.W.findIn K (.ref C) "__getattribute__" = some (some (.builtin "BaseException.__getattribute__"))) && (decide (PySem.W.findIn K (.ref C) "__getattr__" = some none) &&
  (decide (PySem.W.subIn K (.ref C) (.type "BaseException") = some true) && (decide (PySem.W.findIn K (.ref C) "__class__" = some (some (.builtin "object.__class__"))) &&
  (decide (PySem.W.specialIn K (.builtin "object.__class__") "__get__" = some (some (.builtin "getset_descriptor.__get__"))) && (decide (PySem.W.takesIn K (.builtin "object.__class__") = some true) &&
  (decide (PySem.W.mroIn K C (.type "object") = some true) && (PySem.W.hasDictIn K C && PySem.W.keepIn K (.ref C)))))))))
theorem xtB_ok {K : PySem.W.Frag} {C : Addr} (h : xtB K C = true) : XT K C := by
  obtain ⟨h1, h⟩ := Bool.and_eq_true_iff.mp h
  obtain ⟨h2, h⟩ := Bool.and_eq_true_iff.mp h
  obtain ⟨h3, h⟩ := Bool.and_eq_true_iff.mp h
  obtain ⟨h4, h⟩ := Bool.and_eq_true_iff.mp h
  obtain ⟨h5, h⟩ := Bool.and_eq_true_iff.mp h
  obtain ⟨h6, h⟩ := Bool.and_eq_true_iff.mp h
  obtain ⟨h7, h⟩ := Bool.and_eq_true_iff.mp h
  obtain ⟨h8, h⟩ := Bool.and_eq_true_iff.mp h
  obtain ⟨h9, h10⟩ := Bool.and_eq_true_iff.mp h
  exact ⟨h1, of_decide_eq_true h2, of_decide_eq_true h3, of_decide_eq_true h4, of_decide_eq_true h5, of_decide_eq_true h6, of_decide_eq_true h7, of_decide_eq_true h8, h9, h10⟩
/-- what is asked of a class with a field, as Bools -/
def clsB (K : PySem.W.Frag) (C : Addr) : Bool := match K.lookup C with
  | some ⟨.type "type", _, .cls cd, sl⟩ => (match cd.mro, sl.toList with
    | .ref C' :: bm, [_, _, _, _, some (.builtin n), _] => C' == C && (n == "ValueError.__new__" && (!cd.hasDel && (cd.hasDict && PySem.HandSPX.refsVE bm)))
    | _, _ => false)
  | _ => false
theorem clsB_ok {K : PySem.W.Frag} {C : Addr} (h : clsB K C = true) : ∃ nm q N bs bm sn sub ab col dd k0 k1 k2 k3 k5, K.lookup C = some (excClassObj nm q C N bs bm true sn sub ab col dd k0 k1 k2 k3 k5 "ValueError.__new__") ∧ PySem.HandSPX.refsVE bm = true := by
  unfold clsB at h
  split at h
  · rename_i dd cd sl ho
    split at h
    · rename_i C' bm k0 k1 k2 k3 n k5 hm hs
      simp only [Bool.and_eq_true, beq_iff_eq, Bool.not_eq_true'] at h
      obtain ⟨rfl, rfl, hdel, hdct, hr⟩ := h
      obtain ⟨nm, bs, mro, ns, qn, hd, sn, sub, ab, col, del⟩ := cd
      dsimp only at hm hdel hdct
      subst hm hdel hdct
      have hsl : sl = #[k0, k1, k2, k3, some (.builtin "ValueError.__new__"), k5] := by
        obtain ⟨l⟩ := sl
        simp only at hs
        rw [hs]
      subst hsl
      exact ⟨nm, qn, ns, bs, bm, sn, sub, ab, col, dd, k0, k1, k2, k3, k5, ho, hr⟩
    · cases h
  · cases h
def xiB (K : PySem.W.Frag) (C : Addr) (f : Str) : Bool :=
  clsB K C && (PySem.W.excInitIn K C vEr "ValueError.__new__" && (decide (PySem.W.findIn K (.ref C) "__setattr__" = some (some (.builtin "object.__setattr__"))) && (decide (PySem.W.findIn K (.ref C) f = some none) &&
  (decide (PySem.W.ks_superIn K C C "__init__" = some (some (.builtin "ValueError.__init__"))) && (decide (PySem.W.subIn K (.ref C) (.type "ValueError") = some true) && (decide (PySem.W.mroIn K C (.ref C) = some true) && xtB K C))))))
theorem xi_mk {K : PySem.W.Frag} {st : Stmt} {qual f txt file : Str} {C fI cc cda : Addr} {oc kV doc pm ct oc2 oc3 : Value} {od od2 od3 an : Option Addr} {osl os2 os3 : Array (Option Value)} {vs : Array Value} {tf : Tok} (sh : IShape st f txt) (nf : FName f)
    (iC : PySem.W.findIn K (.ref C) "__init__" = some (some (.ref fI))) (l1 : K.lookup fI = some ⟨oc, od, .func (PySem.W.ksFn "__init__" qual (defArgs st) (defBody st) (defScope st) .none kV doc pm an (.ref cda) ct cc), osl⟩)
    (c1 : PySem.W.codeIn K (.ref cda) qual = true) (tI : PySem.W.typeIn K (.ref fI) = some (.type "function")) (l2 : K.lookup cc = some ⟨oc2, od2, .cell (some (.ref C)), os2⟩) (l3 : K.lookup cda = some ⟨oc3, od3, .fields vs, os3⟩) (v2 : vs[2]? = some (.str file tf))
    (opq : PySem.W.nsIn K cStatics "thirdparty.any" = some none) (h : xiB K C f = true) : XI K st qual C fI cc cda f txt file := by
  obtain ⟨h1, h⟩ := Bool.and_eq_true_iff.mp h
  obtain ⟨h2, h⟩ := Bool.and_eq_true_iff.mp h
  obtain ⟨h3, h⟩ := Bool.and_eq_true_iff.mp h
  obtain ⟨h4, h⟩ := Bool.and_eq_true_iff.mp h
  obtain ⟨h5, h⟩ := Bool.and_eq_true_iff.mp h
  obtain ⟨h6, h⟩ := Bool.and_eq_true_iff.mp h
  obtain ⟨h7, h8⟩ := Bool.and_eq_true_iff.mp h
  exact ⟨xtB_ok h8, sh, nf, clsB_ok h1, h2, of_decide_eq_true h3, of_decide_eq_true h4, iC, tI, of_decide_eq_true h5, of_decide_eq_true h6, of_decide_eq_true h7, opq, ⟨_, _, _, l2⟩, ⟨_, _, _, _, _, l3, v2⟩, ⟨_, _, _, _, _, _, _, _, l1, c1⟩⟩
theorem def_mk {K : PySem.W.Frag} {x qual : Str} {st : Stmt} {f : Addr} {oc : Value} {od an : Option Addr} {osl : Array (Option Value)} {kV doc pm cdv ct : Value} (l : K.lookup f = some ⟨oc, od, .func (PySem.W.fnOf x qual (defArgs st) (defBody st) (defScope st) .none kV doc pm an cdv ct), osl⟩)
    (c : PySem.W.codeIn K cdv qual = true) (k : PySem.W.keepIn K (.ref f) = true) : ∃ fd, Fun K x qual st f fd := ⟨_, fun_mk l c k⟩
theorem fn_index : FName "index" := ⟨by decide +kernel, by decide +kernel, by decide +kernel, by decide +kernel, by decide +kernel, fun _ _ _ _ _ _ _ _ _ _ _ _ _ => rfl⟩
theorem sh_bad : IShape (inClass (topS 3) 0) "index" "these are no terms of a curve" := ⟨_, _, _, _, _, _, _, _, _, _, _, _, _, rfl, rfl, rfl, ⟨_, fun _ => rfl⟩⟩
theorem sh_txt : IShape (inClass (topS 4) 0) "index" "this is no text of a curve" := ⟨_, _, _, _, _, _, _, _, _, _, _, _, _, rfl, rfl, rfl, ⟨_, fun _ => rfl⟩⟩
theorem defc_mk {K : PySem.W.Frag} {x qual : Str} {st : Stmt} {f c : Addr} {oc : Value} {od an : Option Addr} {osl : Array (Option Value)} {kV doc pm ct : Value} (l : K.lookup f = some ⟨oc, od, .func (PySem.W.fnOf x qual (defArgs st) (defBody st) (defScope st) .none kV doc pm an (.ref c) ct), osl⟩)
    (h : PySem.W.codeIn K (.ref c) qual = true) (k : PySem.W.keepIn K (.ref f) = true) : ∃ fd, FunC K x qual st f fd c := ⟨_, ⟨⟨oc, od, kV, doc, pm, an, ct, osl, rfl, l, h⟩, k⟩⟩
def tyNs : List String := ["NoneType", "bool", "int", "str", "list", "tuple", "dict"]
theorem tyN_mem (d : PyData) : tyN d ∈ tyNs := by cases d <;> simp [tyN, tyNs]
/-- what is asked of Curve at C, its __init__ at fI -/
def curveB (K : PySem.W.Frag) (C fI : Addr) : Bool :=
  PySem.W.plainGet K C Str.empty && (PySem.W.hasDictIn K C && (PySem.W.plainOver K C && (decide (PySem.W.findIn K (.ref C) "__setattr__" = some (some (.builtin "object.__setattr__"))) && (decide (PySem.W.findIn K (.ref C) "terms" = some none) &&
  (decide (PySem.W.findIn K (.ref C) "__class__" = some (some (.builtin "object.__class__"))) && (decide (PySem.W.specialIn K (.builtin "object.__class__") "__get__" = some (some (.builtin "getset_descriptor.__get__"))) && (decide (PySem.W.takesIn K (.builtin "object.__class__") = some true) &&
  (decide (PySem.W.mroIn K C (.type "object") = some true) && (decide (PySem.W.kitOne K (.ref C) (.ref C) = some true) && (tyNs.all (fun n => decide (PySem.W.kitOne K (.type n) (.ref C) = some false)) && (PySem.W.makesIn K C &&
  (decide (PySem.W.findIn K (.ref C) "__init__" = some (some (.ref fI))) && (PySem.W.isFn K (.ref fI) && PySem.W.keepIn K (.ref C))))))))))))))
/-- what is asked of BadText besides -/
def badB (K : PySem.W.Frag) (C ce : Addr) : Bool :=
  decide (PySem.W.typeIn K (.ref C) = some (.type "type")) && (decide (PySem.W.exmOne K (.ref C) (.ref C) = some true) && (decide (PySem.W.kitOne K (.ref C) (.ref ce) = some true) && (decide (PySem.W.kitOne K (.ref C) (.type "ValueError") = some true) && decide (PySem.W.findIn K (.ref C) "index" = some none))))
theorem pow_at {K : PySem.W.Frag} {pw : Addr} {oc : Value} {od : Option Addr} {h1 h2 h3 : Int} {t1 t2 t3 u1 u2 u3 : Tok} {n : Nat} {sl : Array (Option Value)} (l : K.lookup pw = some ⟨oc, od, .dict #[⟨h1, .str "t" t1, .int 1 u1⟩, ⟨h2, .str "t^2" t2, .int 2 u2⟩, ⟨h3, .str "t^3" t3, .int 3 u3⟩] n, sl⟩) (z : Str) :
    ∃ r, PySem.W.nsIn K pw z = some r ∧ match powR (tl z) with | some k => ∃ t, r = some (.int k t) | none => r = none := by
  have d : ∀ y : Str, ((y == z) = true) = (tl z = tl y) := fun y => by
    rw [beq_iff_eq]
    exact propext ⟨fun e => by rw [e], fun e => (ext_tl e).symm⟩
  have q1 : tl (Str.ofString "t") = [116] := rfl
  have q2 : tl (Str.ofString "t^2") = [116, 94, 50] := rfl
  have q3 : tl (Str.ofString "t^3") = [116, 94, 51] := rfl
  have e1 := d (Str.ofString "t")
  have e2 := d (Str.ofString "t^2")
  have e3 := d (Str.ofString "t^3")
  rw [q1] at e1
  rw [q2] at e2
  rw [q3] at e3
  unfold PySem.W.nsIn
  rw [l]
  unfold powR
  by_cases c1 : tl z = [116]
  · have b1 : (Str.ofString "t" == z) = true := e1 ▸ c1
    rw [if_pos c1]
    refine ⟨some (.int 1 u1), ?_, u1, rfl⟩
    simp only [List.find?_cons, Value.isStr, b1]
  have b1 : (Str.ofString "t" == z) = false := by rw [← Bool.not_eq_true, e1]; exact c1
  rw [if_neg c1]
  by_cases c2 : tl z = [116, 94, 50]
  · have b2 : (Str.ofString "t^2" == z) = true := e2 ▸ c2
    rw [if_pos c2]
    refine ⟨some (.int 2 u2), ?_, u2, rfl⟩
    simp only [List.find?_cons, Value.isStr, b1, b2]
  have b2 : (Str.ofString "t^2" == z) = false := by rw [← Bool.not_eq_true, e2]; exact c2
  rw [if_neg c2]
  by_cases c3 : tl z = [116, 94, 51]
  · have b3 : (Str.ofString "t^3" == z) = true := e3 ▸ c3
    rw [if_pos c3]
    refine ⟨some (.int 3 u3), ?_, u3, rfl⟩
    simp only [List.find?_cons, Value.isStr, b1, b2, b3]
  have b3 : (Str.ofString "t^3" == z) = false := by rw [← Bool.not_eq_true, e3]; exact c3
  rw [if_neg c3]
  refine ⟨none, ?_, rfl⟩
  simp only [List.find?_cons, List.find?_nil, Value.isStr, b1, b2, b3]
  rfl

theorem all_mk {l : PySem.W.OpenLaw} {w : World} {K : PySem.W.Frag} {h : Heap} {mg : Str → Option Value} {fa fIn fNu fFr fNg fLe fCk fTe fRa fSb fFi fMi fSi fTt fRc fPc fSg fBa fRr fRs fFw fB fP fS fI fDp fCo fFc fLs fO fT fIb fQ fC fV fZs fZt fZx fZn fZr fZp fZe fZc fZl fZd fTd fWd fBt fL ce bad xa1 xa2 xa3 btx ya1 ya2 ya3 crv fCi cO tO nil unit pw : Addr} {od od2 : Option Addr} {os os2 : Array (Option Value)} {nn nn2 nn3 : Nat} {q1 q2 q3 q4 m1 m2 m3 m4 m5 r1 r2 r3 v1 v2 v3 : Tok} {h1 h2 h3 : Int} {file : Str} (X : K.In h) (G : h.Ns mainGlobals mg) (hfa : mg "law" = some (.ref fa)) (pf : PF l.prog file)
    (ae : PySem.W.nsIn K mainGlobals "CurveError" = some (some (.ref ce))) (ab : PySem.W.nsIn K mainGlobals "BadCurve" = some (some (.ref bad))) (ax : PySem.W.nsIn K mainGlobals "BadText" = some (some (.ref btx))) (ac : PySem.W.nsIn K mainGlobals "Curve" = some (some (.ref crv)))
    (an : PySem.W.nsIn K mainGlobals "NIL" = some (some (.ref nil))) (ln : K.lookup nil = some ⟨.type "tuple", od, .seq #[.int 0 q1, .int 1 q2] nn, os⟩) (au : PySem.W.nsIn K mainGlobals "UNIT" = some (some (.ref unit))) (lu : K.lookup unit = some ⟨.type "tuple", od2, .seq #[.int 1 q3, .int 1 q4] nn2, os2⟩) (ag : PySem.W.nsIn K mainGlobals "gcd" = some (some (.builtin "math.gcd")))
    (ap : PySem.W.nsIn K mainGlobals "POWERS" = some (some (.ref pw))) (lp : K.lookup pw = some ⟨.type "dict", none, .dict #[⟨h1, .str "t" r1, .int 1 v1⟩, ⟨h2, .str "t^2" r2, .int 2 v2⟩, ⟨h3, .str "t^3" r3, .int 3 v3⟩] nn3, #[]⟩) (kp : PySem.W.KeysLit w.params [⟨h1, .str "t" r1, .int 1 v1⟩, ⟨h2, .str "t^2" r2, .int 2 v2⟩, ⟨h3, .str "t^3" r3, .int 3 v3⟩]) (np : (pw == sysModules) = false)
    (a1 : PySem.W.nsIn K mainGlobals "MOST_TERMS" = some (some (.int 8 m1))) (a2 : PySem.W.nsIn K mainGlobals "MOST_POWER" = some (some (.int 3 m2))) (a3 : PySem.W.nsIn K mainGlobals "MOST_RATE" = some (some (.int 4 m3))) (a4 : PySem.W.nsIn K mainGlobals "MOST_BOTTOM" = some (some (.int 4 m4))) (a5 : PySem.W.nsIn K mainGlobals "MOST_DIGITS" = some (some (.int 30 m5)))
    (n_int : PySem.W.nsIn K mainGlobals "int" = some none)
    (n_len : PySem.W.nsIn K mainGlobals "len" = some none)
    (n_abs : PySem.W.nsIn K mainGlobals "abs" = some none)
    (n_sum : PySem.W.nsIn K mainGlobals "sum" = some none)
    (n_isinstance : PySem.W.nsIn K mainGlobals "isinstance" = some none)
    (n_tuple : PySem.W.nsIn K mainGlobals "tuple" = some none)
    (n_list : PySem.W.nsIn K mainGlobals "list" = some none)
    (n_all : PySem.W.nsIn K mainGlobals "all" = some none)
    (n_zip : PySem.W.nsIn K mainGlobals "zip" = some none)
    (n_bool : PySem.W.nsIn K mainGlobals "bool" = some none)
    (n_range : PySem.W.nsIn K mainGlobals "range" = some none)
    (n_enumerate : PySem.W.nsIn K mainGlobals "enumerate" = some none)
    (n_super : PySem.W.nsIn K mainGlobals "super" = some none)
    (n_sorted : PySem.W.nsIn K mainGlobals "sorted" = some none)
    (n_ValueError : PySem.W.nsIn K mainGlobals "ValueError" = some none)
    (n_max : PySem.W.nsIn K mainGlobals "max" = some none)
    (n_str : PySem.W.nsIn K mainGlobals "str" = some none)
    (n_reversed : PySem.W.nsIn K mainGlobals "reversed" = some none)
    (n_divmod : PySem.W.nsIn K mainGlobals "divmod" = some none)
    (dIn : PySem.W.nsIn K mainGlobals "is_integer" = some (some (.ref fIn))) (FIn : ∃ fd, Fun K "is_integer" "is_integer" pInteger fIn fd)
    (dNu : PySem.W.nsIn K mainGlobals "is_number" = some (some (.ref fNu))) (FNu : ∃ fd, Fun K "is_number" "is_number" pNumber fNu fd)
    (dFr : PySem.W.nsIn K mainGlobals "is_fraction" = some (some (.ref fFr))) (FFr : ∃ fd, Fun K "is_fraction" "is_fraction" pFraction fFr fd)
    (dNg : PySem.W.nsIn K mainGlobals "negated" = some (some (.ref fNg))) (FNg : ∃ fd, Fun K "negated" "negated" pNegated fNg fd)
    (dLe : PySem.W.nsIn K mainGlobals "less" = some (some (.ref fLe))) (FLe : ∃ fd, Fun K "less" "less" pLess fLe fd)
    (dCk : PySem.W.nsIn K mainGlobals "check_terms" = some (some (.ref fCk))) (FCk : ∃ fd, Fun K "check_terms" "check_terms" pCheck fCk fd)
    (dTe : PySem.W.nsIn K mainGlobals "is_term" = some (some (.ref fTe))) (FTe : ∃ fd, Fun K "is_term" "is_term" pTerm fTe fd)
    (dRa : PySem.W.nsIn K mainGlobals "is_rate" = some (some (.ref fRa))) (FRa : ∃ fd, Fun K "is_rate" "is_rate" pRate fRa fd)
    (dSb : PySem.W.nsIn K mainGlobals "stands_behind" = some (some (.ref fSb))) (FSb : ∃ fd, Fun K "stands_behind" "stands_behind" pBehind fSb fd)
    (dFi : PySem.W.nsIn K mainGlobals "figures" = some (some (.ref fFi))) (FFi : ∃ fd, Fun K "figures" "figures" pFigures fFi fd)
    (dMi : PySem.W.nsIn K mainGlobals "minus_of" = some (some (.ref fMi))) (FMi : ∃ fd, Fun K "minus_of" "minus_of" pMinus fMi fd)
    (dSi : PySem.W.nsIn K mainGlobals "size_text" = some (some (.ref fSi))) (FSi : ∃ fd, Fun K "size_text" "size_text" pSize fSi fd)
    (dTt : PySem.W.nsIn K mainGlobals "term_text" = some (some (.ref fTt))) (FTt : ∃ fd, Fun K "term_text" "term_text" pTerm0 fTt fd)
    (dRc : PySem.W.nsIn K mainGlobals "read_curve" = some (some (.ref fRc))) (FRc : ∃ fd, Fun K "read_curve" "read_curve" pReadC fRc fd)
    (dPc : PySem.W.nsIn K mainGlobals "pieces_of" = some (some (.ref fPc))) (FPc : ∃ fd, Fun K "pieces_of" "pieces_of" pPieces fPc fd)
    (dSg : PySem.W.nsIn K mainGlobals "signed_term" = some (some (.ref fSg))) (FSg : ∃ fd, Fun K "signed_term" "signed_term" pSigned fSg fd)
    (dBa : PySem.W.nsIn K mainGlobals "bare_term" = some (some (.ref fBa))) (FBa : ∃ fd, Fun K "bare_term" "bare_term" pBare fBa fd)
    (dRr : PySem.W.nsIn K mainGlobals "read_rate" = some (some (.ref fRr))) (FRr : ∃ fd, Fun K "read_rate" "read_rate" pRdRate fRr fd)
    (dRs : PySem.W.nsIn K mainGlobals "read_size" = some (some (.ref fRs))) (FRs : ∃ fd, Fun K "read_size" "read_size" pRdSize fRs fd)
    (dFw : PySem.W.nsIn K mainGlobals "has_few_digits" = some (some (.ref fFw))) (FFw : ∃ fd, Fun K "has_few_digits" "has_few_digits" pFew fFw fd)
    (dB : PySem.W.nsIn K mainGlobals "_law_bag" = some (some (.ref fB))) (FB : ∃ fd, Fun K "_law_bag" "_law_bag" sBag fB fd)
    (dP : PySem.W.nsIn K mainGlobals "_law_pick" = some (some (.ref fP))) (FP : ∃ fd, Fun K "_law_pick" "_law_pick" sPick fP fd)
    (dS : PySem.W.nsIn K mainGlobals "_law_some" = some (some (.ref fS))) (FS : ∃ fd, Fun K "_law_some" "_law_some" sSome fS fd)
    (dI : PySem.W.nsIn K mainGlobals "_law_is" = some (some (.ref fI))) (FI : ∃ fd, Fun K "_law_is" "_law_is" sIs fI fd)
    (dDp : PySem.W.nsIn K mainGlobals "_law_deep" = some (some (.ref fDp))) (FDp : ∃ fd, Fun K "_law_deep" "_law_deep" sDeep fDp fd)
    (dCo : PySem.W.nsIn K mainGlobals "_law_common" = some (some (.ref fCo))) (FCo : ∃ fd, Fun K "_law_common" "_law_common" sCommon fCo fd)
    (dFc : PySem.W.nsIn K mainGlobals "_law_frac" = some (some (.ref fFc))) (FFc : ∃ fd, Fun K "_law_frac" "_law_frac" sFrac fFc fd)
    (dLs : PySem.W.nsIn K mainGlobals "_law_less" = some (some (.ref fLs))) (FLs : ∃ fd, Fun K "_law_less" "_law_less" sLess fLs fd)
    (dO : PySem.W.nsIn K mainGlobals "_law_ordered" = some (some (.ref fO))) (FO : ∃ fd, FunC K "_law_ordered" "_law_ordered" sOrdered fO fd cO)
    (dT : PySem.W.nsIn K mainGlobals "_law_terms" = some (some (.ref fT))) (FT : ∃ fd, Fun K "_law_terms" "_law_terms" sTerms fT fd)
    (dIb : PySem.W.nsIn K mainGlobals "_law_is_behind" = some (some (.ref fIb))) (FIb : ∃ fd, Fun K "_law_is_behind" "_law_is_behind" sBehind fIb fd)
    (dQ : PySem.W.nsIn K mainGlobals "_law_q" = some (some (.ref fQ))) (FQ : ∃ fd, Fun K "_law_q" "_law_q" sQ fQ fd)
    (dC : PySem.W.nsIn K mainGlobals "_law_c" = some (some (.ref fC))) (FC : ∃ fd, Fun K "_law_c" "_law_c" sC fC fd)
    (dV : PySem.W.nsIn K mainGlobals "_law_curve" = some (some (.ref fV))) (FV : ∃ fd, Fun K "_law_curve" "_law_curve" sCurve fV fd)
    (dZs : PySem.W.nsIn K mainGlobals "_law_size_text" = some (some (.ref fZs))) (FZs : ∃ fd, Fun K "_law_size_text" "_law_size_text" sSizeT fZs fd)
    (dZt : PySem.W.nsIn K mainGlobals "_law_term_text" = some (some (.ref fZt))) (FZt : ∃ fd, Fun K "_law_term_text" "_law_term_text" sTermT fZt fd)
    (dZx : PySem.W.nsIn K mainGlobals "_law_text" = some (some (.ref fZx))) (FZx : ∃ fd, Fun K "_law_text" "_law_text" sText fZx fd)
    (dZn : PySem.W.nsIn K mainGlobals "_law_number" = some (some (.ref fZn))) (FZn : ∃ fd, Fun K "_law_number" "_law_number" sNumber fZn fd)
    (dZr : PySem.W.nsIn K mainGlobals "_law_size_read" = some (some (.ref fZr))) (FZr : ∃ fd, Fun K "_law_size_read" "_law_size_read" sSizeR fZr fd)
    (dZp : PySem.W.nsIn K mainGlobals "_law_power_read" = some (some (.ref fZp))) (FZp : ∃ fd, Fun K "_law_power_read" "_law_power_read" sPowR fZp fd)
    (dZe : PySem.W.nsIn K mainGlobals "_law_e_read" = some (some (.ref fZe))) (FZe : ∃ fd, Fun K "_law_e_read" "_law_e_read" sER fZe fd)
    (dZc : PySem.W.nsIn K mainGlobals "_law_piece_read" = some (some (.ref fZc))) (FZc : ∃ fd, Fun K "_law_piece_read" "_law_piece_read" sPieceR fZc fd)
    (dZl : PySem.W.nsIn K mainGlobals "_law_pieces" = some (some (.ref fZl))) (FZl : ∃ fd, Fun K "_law_pieces" "_law_pieces" sPieces fZl fd)
    (dZd : PySem.W.nsIn K mainGlobals "_law_read" = some (some (.ref fZd))) (FZd : ∃ fd, Fun K "_law_read" "_law_read" sRead fZd fd)
    (dTd : PySem.W.nsIn K mainGlobals "_law_told" = some (some (.ref fTd))) (FTd : ∃ fd, Fun K "_law_told" "_law_told" sTold4 fTd fd)
    (dWd : PySem.W.nsIn K mainGlobals "_law_word" = some (some (.ref fWd))) (FWd : ∃ fd, Fun K "_law_word" "_law_word" sWord fWd fd)
    (dBt : PySem.W.nsIn K mainGlobals "_law_bent" = some (some (.ref fBt))) (FBt : ∃ fd, Fun K "_law_bent" "_law_bent" sBent4 fBt fd)
    (dL : PySem.W.nsIn K mainGlobals "law" = some (some (.ref fL))) (FL : ∃ fd, Fun K "law" "law" sLaw4 fL fd)
    (ai : PySem.W.findIn K (.ref crv) "__init__" = some (some (.ref fCi)))
    (Fii : ∃ fd, Fun K "__init__" "Curve.__init__" pInit fCi fd) (xcv : curveB K crv fCi = true) (xbc : PySem.W.typeIn K (.ref bad) = some (.type "type")) (xbd : badB K btx ce = true)
    (xxi : XI K (inClass (topS 3) 0) "BadCurve.__init__" bad xa1 xa2 xa3 "index" "these are no terms of a curve" file) (xxt : XI K (inClass (topS 4) 0) "BadText.__init__" btx ya1 ya2 ya3 "index" "this is no text of a curve" file) (tab : PySem.W.tabIn K "_law_ordered" = some (cO, tO)) (nt : K.lookup tO = none) :
    ∃ (fd : FuncData) (c P : Addr), (∀ (s : Shared) (v : Value), BindsTo s fd ⟨[v], []⟩ [("_law_script", v)]) ∧ PySem.W.tabIn K "_law_ordered" = some (c, P) ∧ K.lookup P = none ∧
      ∀ base : Heap, K.In base → base.Ns mainGlobals mg → TabB base mg c P → FnOk l.prog w K mg base CX0 10 fa fd ["_law_script"] (spLaw4 K (LT P)) := by
  have zz := hfa.symm.trans (PySem.W.mg_of X G dL)
  cases zz
  obtain ⟨eIn, FIn⟩ := FIn
  obtain ⟨eNu, FNu⟩ := FNu
  obtain ⟨eFr, FFr⟩ := FFr
  obtain ⟨eNg, FNg⟩ := FNg
  obtain ⟨eLe, FLe⟩ := FLe
  obtain ⟨eCk, FCk⟩ := FCk
  obtain ⟨eTe, FTe⟩ := FTe
  obtain ⟨eRa, FRa⟩ := FRa
  obtain ⟨eSb, FSb⟩ := FSb
  obtain ⟨eFi, FFi⟩ := FFi
  obtain ⟨eMi, FMi⟩ := FMi
  obtain ⟨eSi, FSi⟩ := FSi
  obtain ⟨eTt, FTt⟩ := FTt
  obtain ⟨eRc, FRc⟩ := FRc
  obtain ⟨ePc, FPc⟩ := FPc
  obtain ⟨eSg, FSg⟩ := FSg
  obtain ⟨eBa, FBa⟩ := FBa
  obtain ⟨eRr, FRr⟩ := FRr
  obtain ⟨eRs, FRs⟩ := FRs
  obtain ⟨eFw, FFw⟩ := FFw
  obtain ⟨eB, FB⟩ := FB
  obtain ⟨eP, FP⟩ := FP
  obtain ⟨eS, FS⟩ := FS
  obtain ⟨eI, FI⟩ := FI
  obtain ⟨eDp, FDp⟩ := FDp
  obtain ⟨eCo, FCo⟩ := FCo
  obtain ⟨eFc, FFc⟩ := FFc
  obtain ⟨eLs, FLs⟩ := FLs
  obtain ⟨eO, FO⟩ := FO
  obtain ⟨eT, FT⟩ := FT
  obtain ⟨eIb, FIb⟩ := FIb
  obtain ⟨eQ, FQ⟩ := FQ
  obtain ⟨eC, FC⟩ := FC
  obtain ⟨eV, FV⟩ := FV
  obtain ⟨eZs, FZs⟩ := FZs
  obtain ⟨eZt, FZt⟩ := FZt
  obtain ⟨eZx, FZx⟩ := FZx
  obtain ⟨eZn, FZn⟩ := FZn
  obtain ⟨eZr, FZr⟩ := FZr
  obtain ⟨eZp, FZp⟩ := FZp
  obtain ⟨eZe, FZe⟩ := FZe
  obtain ⟨eZc, FZc⟩ := FZc
  obtain ⟨eZl, FZl⟩ := FZl
  obtain ⟨eZd, FZd⟩ := FZd
  obtain ⟨eTd, FTd⟩ := FTd
  obtain ⟨eWd, FWd⟩ := FWd
  obtain ⟨eBt, FBt⟩ := FBt
  obtain ⟨eL, FL⟩ := FL
  obtain ⟨eFii, Fii⟩ := Fii
  have bIn_ : Binds K eIn ["thing"] [] := FIn.binds (ps := ["thing"]) fun _ _ _ _ _ _ us hl => match us, hl with | [_], _ => rfl
  have bNu_ : Binds K eNu ["thing"] [] := FNu.binds (ps := ["thing"]) fun _ _ _ _ _ _ us hl => match us, hl with | [_], _ => rfl
  have bFr_ : Binds K eFr ["thing"] [] := FFr.binds (ps := ["thing"]) fun _ _ _ _ _ _ us hl => match us, hl with | [_], _ => rfl
  have bNg_ : Binds K eNg ["fraction"] [] := FNg.binds (ps := ["fraction"]) fun _ _ _ _ _ _ us hl => match us, hl with | [_], _ => rfl
  have bLe_ : Binds K eLe ["one", "other"] [] := FLe.binds (ps := ["one", "other"]) fun _ _ _ _ _ _ us hl => match us, hl with | [_, _], _ => rfl
  have bCk_ : Binds K eCk ["terms"] [] := FCk.binds (ps := ["terms"]) fun _ _ _ _ _ _ us hl => match us, hl with | [_], _ => rfl
  have bTe_ : Binds K eTe ["thing"] [] := FTe.binds (ps := ["thing"]) fun _ _ _ _ _ _ us hl => match us, hl with | [_], _ => rfl
  have bRa_ : Binds K eRa ["thing"] [] := FRa.binds (ps := ["thing"]) fun _ _ _ _ _ _ us hl => match us, hl with | [_], _ => rfl
  have bSb_ : Binds K eSb ["term", "other"] [] := FSb.binds (ps := ["term", "other"]) fun _ _ _ _ _ _ us hl => match us, hl with | [_, _], _ => rfl
  have bFi_ : Binds K eFi ["number"] [] := FFi.binds (ps := ["number"]) fun _ _ _ _ _ _ us hl => match us, hl with | [_], _ => rfl
  have bMi_ : Binds K eMi ["fraction"] [] := FMi.binds (ps := ["fraction"]) fun _ _ _ _ _ _ us hl => match us, hl with | [_], _ => rfl
  have bSi_ : Binds K eSi ["fraction"] [] := FSi.binds (ps := ["fraction"]) fun _ _ _ _ _ _ us hl => match us, hl with | [_], _ => rfl
  have bTt_ : Binds K eTt ["term"] [] := FTt.binds (ps := ["term"]) fun _ _ _ _ _ _ us hl => match us, hl with | [_], _ => rfl
  have bRc_ : Binds K eRc ["text"] [] := FRc.binds (ps := ["text"]) fun _ _ _ _ _ _ us hl => match us, hl with | [_], _ => rfl
  have bPc_ : Binds K ePc ["text"] [] := FPc.binds (ps := ["text"]) fun _ _ _ _ _ _ us hl => match us, hl with | [_], _ => rfl
  have bSg_ : Binds K eSg ["piece", "first"] [] := FSg.binds (ps := ["piece", "first"]) fun _ _ _ _ _ _ us hl => match us, hl with | [_, _], _ => rfl
  have bBa_ : Binds K eBa ["body"] [] := FBa.binds (ps := ["body"]) fun _ _ _ _ _ _ us hl => match us, hl with | [_], _ => rfl
  have bRr_ : Binds K eRr ["text"] [] := FRr.binds (ps := ["text"]) fun _ _ _ _ _ _ us hl => match us, hl with | [_], _ => rfl
  have bRs_ : Binds K eRs ["text"] [] := FRs.binds (ps := ["text"]) fun _ _ _ _ _ _ us hl => match us, hl with | [_], _ => rfl
  have bFw_ : Binds K eFw ["text"] [] := FFw.binds (ps := ["text"]) fun _ _ _ _ _ _ us hl => match us, hl with | [_], _ => rfl
  have bB_ : Binds K eB ["_law_script"] [] := FB.binds (ps := ["_law_script"]) fun _ _ _ _ _ _ us hl => match us, hl with | [_], _ => rfl
  have bP_ : Binds K eP ["_law_bag_here", "_law_many"] [] := FP.binds (ps := ["_law_bag_here", "_law_many"]) fun _ _ _ _ _ _ us hl => match us, hl with | [_, _], _ => rfl
  have bS_ : Binds K eS ["_law_bag_here", "_law_things"] [] := FS.binds (ps := ["_law_bag_here", "_law_things"]) fun _ _ _ _ _ _ us hl => match us, hl with | [_, _], _ => rfl
  have bI_ : Binds K eI ["_law_thing", "_law_due"] [] := FI.binds (ps := ["_law_thing", "_law_due"]) fun _ _ _ _ _ _ us hl => match us, hl with | [_, _], _ => rfl
  have bDp_ : Binds K eDp [] [] := FDp.binds (ps := []) fun _ _ _ _ _ _ us hl => match us, hl with | [], _ => rfl
  have bCo_ : Binds K eCo ["_law_one", "_law_other"] [] := FCo.binds (ps := ["_law_one", "_law_other"]) fun _ _ _ _ _ _ us hl => match us, hl with | [_, _], _ => rfl
  have bFc_ : Binds K eFc ["_law_top", "_law_bottom"] [] := FFc.binds (ps := ["_law_top", "_law_bottom"]) fun _ _ _ _ _ _ us hl => match us, hl with | [_, _], _ => rfl
  have bLs_ : Binds K eLs ["_law_one", "_law_other"] [] := FLs.binds (ps := ["_law_one", "_law_other"]) fun _ _ _ _ _ _ us hl => match us, hl with | [_, _], _ => rfl
  have bO_ : Binds K eO ["_law_keys"] [] := FO.to.binds (ps := ["_law_keys"]) fun _ _ _ _ _ _ us hl => match us, hl with | [_], _ => rfl
  have bT_ : Binds K eT ["_law_parts"] [] := FT.binds (ps := ["_law_parts"]) fun _ _ _ _ _ _ us hl => match us, hl with | [_], _ => rfl
  have bIb_ : Binds K eIb ["_law_ahead", "_law_term"] [] := FIb.binds (ps := ["_law_ahead", "_law_term"]) fun _ _ _ _ _ _ us hl => match us, hl with | [_, _], _ => rfl
  have bQ_ : Binds K eQ ["_law_bag_here"] [] := FQ.binds (ps := ["_law_bag_here"]) fun _ _ _ _ _ _ us hl => match us, hl with | [_], _ => rfl
  have bC_ : Binds K eC ["_law_bag_here"] [] := FC.binds (ps := ["_law_bag_here"]) fun _ _ _ _ _ _ us hl => match us, hl with | [_], _ => rfl
  have bV_ : Binds K eV ["_law_bag_here", "_law_size"] [] := FV.binds (ps := ["_law_bag_here", "_law_size"]) fun _ _ _ _ _ _ us hl => match us, hl with | [_, _], _ => rfl
  have bZs_ : Binds K eZs ["_law_c_here"] [] := FZs.binds (ps := ["_law_c_here"]) fun _ _ _ _ _ _ us hl => match us, hl with | [_], _ => rfl
  have bZt_ : Binds K eZt ["_law_term"] [] := FZt.binds (ps := ["_law_term"]) fun _ _ _ _ _ _ us hl => match us, hl with | [_], _ => rfl
  have bZx_ : Binds K eZx ["_law_terms_here"] [] := FZx.binds (ps := ["_law_terms_here"]) fun _ _ _ _ _ _ us hl => match us, hl with | [_], _ => rfl
  have bZn_ : Binds K eZn ["_law_word_here"] [] := FZn.binds (ps := ["_law_word_here"]) fun _ _ _ _ _ _ us hl => match us, hl with | [_], _ => rfl
  have bZr_ : Binds K eZr ["_law_word_here"] [] := FZr.binds (ps := ["_law_word_here"]) fun _ _ _ _ _ _ us hl => match us, hl with | [_], _ => rfl
  have bZp_ : Binds K eZp ["_law_word_here"] [] := FZp.binds (ps := ["_law_word_here"]) fun _ _ _ _ _ _ us hl => match us, hl with | [_], _ => rfl
  have bZe_ : Binds K eZe ["_law_word_here"] [] := FZe.binds (ps := ["_law_word_here"]) fun _ _ _ _ _ _ us hl => match us, hl with | [_], _ => rfl
  have bZc_ : Binds K eZc ["_law_piece", "_law_is_below"] [] := FZc.binds (ps := ["_law_piece", "_law_is_below"]) fun _ _ _ _ _ _ us hl => match us, hl with | [_, _], _ => rfl
  have bZl_ : Binds K eZl ["_law_text_here"] [] := FZl.binds (ps := ["_law_text_here"]) fun _ _ _ _ _ _ us hl => match us, hl with | [_], _ => rfl
  have bZd_ : Binds K eZd ["_law_text_here"] [] := FZd.binds (ps := ["_law_text_here"]) fun _ _ _ _ _ _ us hl => match us, hl with | [_], _ => rfl
  have bTd_ : Binds K eTd ["_law_text_here"] [] := FTd.binds (ps := ["_law_text_here"]) fun _ _ _ _ _ _ us hl => match us, hl with | [_], _ => rfl
  have bWd_ : Binds K eWd ["_law_bag_here"] [] := FWd.binds (ps := ["_law_bag_here"]) fun _ _ _ _ _ _ us hl => match us, hl with | [_], _ => rfl
  have bBt_ : Binds K eBt ["_law_bag_here", "_law_text_here"] [] := FBt.binds (ps := ["_law_bag_here", "_law_text_here"]) fun _ _ _ _ _ _ us hl => match us, hl with | [_, _], _ => rfl
  have bFii : Binds K eFii ["self", "terms"] [] := Fii.binds (ps := ["self", "terms"]) fun _ _ _ _ _ _ us hl => match us, hl with | [_, _], _ => rfl
  have n_int := PySem.W.mg_none_of X G n_int
  have n_len := PySem.W.mg_none_of X G n_len
  have n_abs := PySem.W.mg_none_of X G n_abs
  have n_sum := PySem.W.mg_none_of X G n_sum
  have n_isinstance := PySem.W.mg_none_of X G n_isinstance
  have n_tuple := PySem.W.mg_none_of X G n_tuple
  have n_list := PySem.W.mg_none_of X G n_list
  have n_all := PySem.W.mg_none_of X G n_all
  have n_zip := PySem.W.mg_none_of X G n_zip
  have n_bool := PySem.W.mg_none_of X G n_bool
  have n_range := PySem.W.mg_none_of X G n_range
  have n_enumerate := PySem.W.mg_none_of X G n_enumerate
  have n_super := PySem.W.mg_none_of X G n_super
  have n_sorted := PySem.W.mg_none_of X G n_sorted
  have n_ValueError := PySem.W.mg_none_of X G n_ValueError
  have n_max := PySem.W.mg_none_of X G n_max
  have n_str := PySem.W.mg_none_of X G n_str
  have n_reversed := PySem.W.mg_none_of X G n_reversed
  have n_divmod := PySem.W.mg_none_of X G n_divmod
  have dIn := PySem.W.mg_of X G dIn
  have dNu := PySem.W.mg_of X G dNu
  have dFr := PySem.W.mg_of X G dFr
  have dNg := PySem.W.mg_of X G dNg
  have dLe := PySem.W.mg_of X G dLe
  have dCk := PySem.W.mg_of X G dCk
  have dTe := PySem.W.mg_of X G dTe
  have dRa := PySem.W.mg_of X G dRa
  have dSb := PySem.W.mg_of X G dSb
  have dFi := PySem.W.mg_of X G dFi
  have dMi := PySem.W.mg_of X G dMi
  have dSi := PySem.W.mg_of X G dSi
  have dTt := PySem.W.mg_of X G dTt
  have dRc := PySem.W.mg_of X G dRc
  have dPc := PySem.W.mg_of X G dPc
  have dSg := PySem.W.mg_of X G dSg
  have dBa := PySem.W.mg_of X G dBa
  have dRr := PySem.W.mg_of X G dRr
  have dRs := PySem.W.mg_of X G dRs
  have dFw := PySem.W.mg_of X G dFw
  have dB := PySem.W.mg_of X G dB
  have dP := PySem.W.mg_of X G dP
  have dS := PySem.W.mg_of X G dS
  have dI := PySem.W.mg_of X G dI
  have dDp := PySem.W.mg_of X G dDp
  have dCo := PySem.W.mg_of X G dCo
  have dFc := PySem.W.mg_of X G dFc
  have dLs := PySem.W.mg_of X G dLs
  have dO := PySem.W.mg_of X G dO
  have dT := PySem.W.mg_of X G dT
  have dIb := PySem.W.mg_of X G dIb
  have dQ := PySem.W.mg_of X G dQ
  have dC := PySem.W.mg_of X G dC
  have dV := PySem.W.mg_of X G dV
  have dZs := PySem.W.mg_of X G dZs
  have dZt := PySem.W.mg_of X G dZt
  have dZx := PySem.W.mg_of X G dZx
  have dZn := PySem.W.mg_of X G dZn
  have dZr := PySem.W.mg_of X G dZr
  have dZp := PySem.W.mg_of X G dZp
  have dZe := PySem.W.mg_of X G dZe
  have dZc := PySem.W.mg_of X G dZc
  have dZl := PySem.W.mg_of X G dZl
  have dZd := PySem.W.mg_of X G dZd
  have dTd := PySem.W.mg_of X G dTd
  have dWd := PySem.W.mg_of X G dWd
  have dBt := PySem.W.mg_of X G dBt
  have dL := PySem.W.mg_of X G dL
  have ae := PySem.W.mg_of X G ae
  have ab := PySem.W.mg_of X G ab
  have ax := PySem.W.mg_of X G ax
  have ac := PySem.W.mg_of X G ac
  have an := PySem.W.mg_of X G an
  have au := PySem.W.mg_of X G au
  have ap := PySem.W.mg_of X G ap
  have ag := PySem.W.mg_of X G ag
  have a1 := PySem.W.mg_of X G a1
  have a2 := PySem.W.mg_of X G a2
  have a3 := PySem.W.mg_of X G a3
  have a4 := PySem.W.mg_of X G a4
  have a5 := PySem.W.mg_of X G a5
  unfold curveB at xcv
  simp only [Bool.and_eq_true, decide_eq_true_eq] at xcv
  obtain ⟨c1, c2, c3, c4, c5, c6, c7, c8, c9, c10, c11, c12, c13, c14, c15⟩ := xcv
  unfold badB at xbd
  simp only [Bool.and_eq_true, decide_eq_true_eq] at xbd
  obtain ⟨b1, b2, b3, b4, b5⟩ := xbd
  have J : JudT mg := ⟨n_isinstance, n_int, n_bool, n_tuple, n_len, n_all, n_abs, n_enumerate⟩
  have BT : BltT mg := ⟨n_int, n_len, n_abs, n_sum⟩
  have FG_ : FigT mg := ⟨n_reversed, n_divmod, n_str, n_abs, n_len⟩
  have cv : CvK K mg crv := ⟨⟨c1, c2, c3, c4⟩, c5, ac, c6, c7, c8, c9, c10, fun d => of_decide_eq_true (List.all_eq_true.mp c11 _ (tyN_mem d))⟩
  have bt : BadT l.prog K mg bad := ⟨_, _, _, _, _, _, _, xxi, pf, n_super, ab, xbc⟩
  have bx : TxtB l.prog K mg btx := ⟨_, _, _, _, _, _, _, xxt, pf, n_super, ax, b1⟩
  have wN : WrT K nil [.int 0, .int 1] := ⟨_, _, _, ln, rfl, rfl, by show 2 ≤ sizeLine; decide, .cons ⟨_, rfl⟩ (.cons ⟨_, rfl⟩ .nil)⟩
  have wU : WrT K unit [.int 1, .int 1] := ⟨_, _, _, lu, rfl, rfl, by show 2 ≤ sizeLine; decide, .cons ⟨_, rfl⟩ (.cons ⟨_, rfl⟩ .nil)⟩
  have dNil : ∀ H : Hp, Dp K H (.ref nil) (.tuple [.int 0, .int 1]) := fun H => Dp.tup (xs := [V.int 0, V.int 1]) (.inr wN) (.cons (.int 0) (.cons (.int 1) .nil))
  have dUni : ∀ H : Hp, Dp K H (.ref unit) (.tuple [.int 1, .int 1]) := fun H => Dp.tup (xs := [V.int 1, V.int 1]) (.inr wU) (.cons (.int 1) (.cons (.int 1) .nil))
  refine ⟨eL, cO, tO, fun s v => ?_, tab, nt, fun base _ _ TB => ?_⟩
  · obtain ⟨_, _, _, _, _, _, _, _, _, rfl, _, _⟩ := FL.ex
    exact .of_eq rfl
  -- the program
  have GIn : FnOk l.prog w K mg base CX0 1 fIn eIn ["thing"] (spInteger K) := ok_integer FIn J
  have iT : IntT l.prog w K mg base := ⟨_, _, GIn, bIn_, dIn, FIn.kp, ag⟩
  have GNu : FnOk l.prog w K mg base CX0 2 fNu eNu ["thing"] (spNumber K) := ok_number FNu iT
  have GFr : FnOk l.prog w K mg base CX0 2 fFr eFr ["thing"] (spFraction K) := ok_fraction FFr J iT
  have GLe : FnOk l.prog w K mg base CX0 1 fLe eLe ["one", "other"] (spLess K) := ok_pless FLe
  have pj : PjT l.prog w K mg base := ⟨_, _, _, _, _, _, nil, GFr, GNu, GLe, bFr_, bNu_, bLe_, dFr, dNu, dLe, FFr.kp, FNu.kp, FLe.kp, an, dNil, ⟨_, a1⟩, ⟨_, a2⟩, ⟨_, a3⟩, ⟨_, a4⟩⟩
  have GRa : FnOk l.prog w K mg base CX0 3 fRa eRa ["thing"] (spRate K) := ok_rate FRa J pj
  have pk : PkT l.prog w K mg base := ⟨pj, _, _, GRa, bRa_, dRa, FRa.kp⟩
  have GTe : FnOk l.prog w K mg base CX0 4 fTe eTe ["thing"] (spPTerm K) := ok_pterm FTe J pk
  have GSb : FnOk l.prog w K mg base CX0 2 fSb eSb ["term", "other"] (spPBehind K) := ok_pbehind FSb pj
  have ck : ChkT l.prog w K mg base := ⟨pk, _, _, _, _, GTe, GSb, bTe_, bSb_, dTe, dSb, FTe.kp, FSb.kp⟩
  have GCk : FnOk l.prog w K mg base (L2.CX l.prog w) 5 fCk eCk ["terms"] (spCheck K bad) := ok_check FCk J ck bt
  have ini : IniT l.prog w K mg base bad := ⟨_, _, GCk, bCk_, dCk, FCk.kp⟩
  have GFii : FnOk l.prog w K mg base (L2.CX l.prog w) 6 fCi eFii ["self", "terms"] (spInit K crv bad) := ok_init Fii cv ini
  have GFi : FnOk l.prog w K mg base CX0 1 fFi eFi ["number"] spFigures := ok_figures FFi FG_
  have GMi : FnOk l.prog w K mg base CX0 1 fMi eMi ["fraction"] (spMinus K) := ok_minus FMi
  have siz : SizT l.prog w K mg base := ⟨_, _, GFi, bFi_, dFi, FFi.kp⟩
  have GSi : FnOk l.prog w K mg base CX0 2 fSi eSi ["fraction"] (spSizeT K) := ok_sizeT FSi FG_ siz
  have GTt : FnOk l.prog w K mg base CX0 3 fTt eTt ["term"] (spTermT K) := ok_termT FTt FG_ ⟨siz, _, _, _, _, unit, GMi, GSi, bMi_, bSi_, dMi, dSi, FMi.kp, FSi.kp, au, dUni⟩
  have GFw : FnOk l.prog w K mg base CX0 1 fFw eFw ["text"] spFew := ok_few FFw FG_ ⟨_, a5⟩
  have GNg : FnOk l.prog w K mg base CX0 1 fNg eNg ["fraction"] (spNegated K) := ok_negated FNg
  have GRs : FnOk l.prog w K mg base CX0 2 fRs eRs ["text"] spRdSize := ok_rdsize FRs ⟨_, _, GFw, bFw_, dFw, FFw.kp, n_int⟩
  have GRr : FnOk l.prog w K mg base CX0 3 fRr eRr ["text"] spRdRate := ok_rdrate FRr ⟨_, _, _, _, GRs, GNg, bRs_, bNg_, dRs, dNg, FRs.kp, FNg.kp⟩
  have GBa : FnOk l.prog w K mg base CX0 5 fBa eBa ["body"] (spBare K) := ok_bare FBa ⟨_, _, _, _, _, _, _, _, unit, nil, pw, _, _, GRs, GRr, GTe, GTt, bRs_, bRr_, bTe_, bTt_, dRs, dRr, dTe, dTt, FRs.kp, FRr.kp, FTe.kp, FTt.kp, au, an, wU, wN, ap, ⟨lp, kp, np⟩, pow_at lp, n_len⟩
  have GSg : FnOk l.prog w K mg base CX0 6 fSg eSg ["piece", "first"] (spSigned K) := ok_signed FSg ⟨_, _, _, _, GBa, GNg, bBa_, bNg_, dBa, dNg, FBa.kp, FNg.kp⟩
  have GPc : FnOk l.prog w K mg base CX0 1 fPc ePc ["text"] spPieces := ok_pieces FPc n_len
  have GRc : FnOk l.prog w K mg base (L2.CX l.prog w) 8 fRc eRc ["text"] (spReadC K crv btx) := ok_readc FRc J ⟨_, _, _, _, _, _, _, _, GPc, GSg, GSb, GFii, bPc_, bSg_, bSb_, bFii, dPc, dSg, dSb, FPc.kp, FSg.kp, FSb.kp, ⟨c12, c13, c14, c15⟩, cv, ⟨_, a1⟩, n_str⟩ bx
  -- the law
  have GP : FnOk l.prog w K mg base CX0 1 fP eP ["_law_bag_here", "_law_many"] spPick := ok_pick FP BT
  have GS : FnOk l.prog w K mg base CX0 2 fS eS ["_law_bag_here", "_law_things"] spSome := ok_some FS BT FP bP_ dP
  have GB : FnOk l.prog w K mg base CX0 1 fB eB ["_law_script"] (spBag K) := ok_bag FB BT
  have GI : FnOk l.prog w K mg base CX0 6 fI eI ["_law_thing", "_law_due"] (spIs K 6) := ok_is FI ⟨n_isinstance, n_tuple, n_list, n_len, n_all, n_zip, n_bool⟩ bI_ dI 6
  have GDp : FnOk l.prog w K mg base CX0 1 fDp eDp [] spDeep := ok_deep FDp n_range
  have GCo : FnOk l.prog w K mg base CX0 1 fCo eCo ["_law_one", "_law_other"] spCommon := ok_common FCo BT
  have GFc : FnOk l.prog w K mg base CX0 2 fFc eFc ["_law_top", "_law_bottom"] spFrac := ok_frac FFc BT n_max FCo bCo_ dCo
  have num : NumT l.prog w K mg base := ⟨_, _, _, _, _, _, GP, GS, GFc, bP_, bS_, bFc_, dP, dS, dFc, FP.kp, FS.kp, FFc.kp⟩
  have GQ : FnOk l.prog w K mg base CX0 3 fQ eQ ["_law_bag_here"] spQ := ok_q FQ num
  have GC : FnOk l.prog w K mg base CX0 3 fC eC ["_law_bag_here"] spC := ok_c FC num
  have GO : FnOk l.prog w K mg base CX0 2 fO eO ["_law_keys"] (spOrdered (LT tO)) := ok_ordered FO ⟨_, _, GCo, bCo_, dCo, FCo.kp, n_sorted⟩ TB
  have GT : FnOk l.prog w K mg base CX0 3 fT eT ["_law_parts"] (spTerms l.prog w (LT tO)) := ok_terms FT ⟨_, _, GO, bO_, dO, FO.kp, n_tuple⟩
  have GV : FnOk l.prog w K mg base CX0 4 fV eV ["_law_bag_here", "_law_size"] (spCurve (LT tO)) := ok_curve FV ⟨num, _, _, _, _, _, _, GQ, GC, GT, bQ_, bC_, bT_, dQ, dC, dT, FQ.kp, FC.kp, FT.kp, n_range⟩
  have GLs : FnOk l.prog w K mg base CX0 1 fLs eLs ["_law_one", "_law_other"] (spLess K) := ok_less FLs
  have GIb : FnOk l.prog w K mg base CX0 2 fIb eIb ["_law_ahead", "_law_term"] (spBehind K) := ok_behind FIb ⟨_, _, GLs, bLs_, dLs, FLs.kp⟩
  have GZs : FnOk l.prog w K mg base CX0 1 fZs eZs ["_law_c_here"] (spLSize K) := ok_lsize FZs FG_
  have GZt : FnOk l.prog w K mg base CX0 2 fZt eZt ["_law_term"] (spLTerm K) := ok_lterm FZt FG_ ⟨_, _, GZs, bZs_, dZs, FZs.kp⟩
  have GZx : FnOk l.prog w K mg base CX0 3 fZx eZx ["_law_terms_here"] (spLText K) := ok_ltext FZx ⟨_, _, GZt, bZt_, dZt, FZt.kp⟩
  have GZn : FnOk l.prog w K mg base CX0 1 fZn eZn ["_law_word_here"] spNumb := ok_numb FZn J
  have GZp : FnOk l.prog w K mg base CX0 1 fZp eZp ["_law_word_here"] spPow := ok_pow FZp J
  have GZr : FnOk l.prog w K mg base CX0 2 fZr eZr ["_law_word_here"] spLSz := ok_lsz FZr J ⟨_, _, _, _, GZn, GCo, bZn_, bCo_, dZn, dCo, FZn.kp, FCo.kp⟩
  have le : LeT l.prog w K mg base := ⟨_, _, GZr, bZr_, dZr, FZr.kp⟩
  have GZe : FnOk l.prog w K mg base CX0 3 fZe eZe ["_law_word_here"] spLE := ok_le FZe le
  have GZc : FnOk l.prog w K mg base CX0 4 fZc eZc ["_law_piece", "_law_is_below"] (spLPiece K) := ok_lpiece FZc ⟨le, _, _, _, _, GZp, GZe, bZp_, bZe_, dZp, dZe, FZp.kp, FZe.kp⟩
  have GZl : FnOk l.prog w K mg base CX0 1 fZl eZl ["_law_text_here"] spLPcs := ok_lpcs FZl n_len
  have GZd : FnOk l.prog w K mg base CX0 5 fZd eZd ["_law_text_here"] (spLRead K) := ok_lread FZd J ⟨_, _, _, _, _, _, GZl, GZc, GIb, bZl_, bZc_, bIb_, dZl, dZc, dIb, FZl.kp, FZc.kp, FIb.kp, n_str⟩
  have GTd : FnOk l.prog w K mg base CX0 9 fTd eTd ["_law_text_here"] (spLRead K) := ok_told4 FTd J ⟨_, _, ce, GRc, bRc_, dRc, FRc.kp, cv, bx, ae, b2, b3, b4, n_ValueError, b5⟩
  have GWd : FnOk l.prog w K mg base CX0 3 fWd eWd ["_law_bag_here"] spWord := ok_word FWd ⟨_, _, GS, bS_, dS, FS.kp⟩
  have GBt : FnOk l.prog w K mg base CX0 5 fBt eBt ["_law_bag_here", "_law_text_here"] (spBent4 (LT tO)) := ok_bent4 FBt ⟨_, _, _, _, _, _, _, _, _, _, GP, GS, GWd, GZx, GV, bP_, bS_, bWd_, bZx_, bV_, dP, dS, dWd, dZx, dV, FP.kp, FS.kp, FWd.kp, FZx.kp, FV.kp, n_len⟩
  exact ok_law4 FL J ⟨_, _, _, _, _, _, _, _, _, _, _, _, _, _, _, _, _, _, _, _, GB, GP, GS, GV, GZx, GI, GTd, GZd, GDp, GBt, bB_, bP_, bS_, bV_, bZx_, bI_, bTd_, bZd_, bDp_, bBt_, dB, dP, dS, dV, dZx, dI, dTd, dZd, dDp, dBt, FB.kp, FP.kp, FS.kp, FV.kp, FZx.kp, FI.kp, FTd.kp, FZd.kp, FDp.kp, FBt.kp, n_str, n_range⟩
theorem walk {l : PySem.W.OpenLaw} {q : Program} {loose : List Str} {XP : (Str → Option Value) → Heap → Prop} {YP : World → Heap → Prop} {d dO : DefRec} {K : Params → PySem.W.Frag} (hn : l.most = some 63) (hdf : d.params.defaults = [])
    (hY : ∀ (w : World) (h : Heap), YP w h → (K w.params).In h) (hO : (recsOf q).find? (fun e => e.name == ("_law_ordered" : Str)) = some dO)
    (F : ∀ (w : World) (mg : Str → Option Value) (fa : Addr) (h : Heap), (K w.params).In h → h.Ns mainGlobals mg → mg d.name = some (.ref fa) →
      ∃ (fd : FuncData) (c P : Addr), (∀ (s : Shared) (v : Value), BindsTo s fd ⟨[v], []⟩ [("_law_script", v)]) ∧ PySem.W.tabIn (K w.params) "_law_ordered" = some (c, P) ∧ (K w.params).lookup P = none ∧
        ∀ base : Heap, (K w.params).In base → base.Ns mainGlobals mg → TabB base mg c P → FnOk l.prog w (K w.params) mg base CX0 10 fa fd ["_law_script"] (spLaw4 (K w.params) (LT P))) :
    PySem.W.WalkO q loose XP YP l.row.toRowW d [] (fun f vs => PySem.call f vs) := by
  refine Att.attach_callB hn hdf fun w s₀ s₁ mg mb fa o pm cd doc a vs ns G Y ho hd hcd hmg hobj hints hlen hbits hg => ?_
  have KX := hY w _ Y
  obtain ⟨fd, c, P, hb, ht, nP, hF⟩ := F w mg fa _ KX G.T.g hmg
  obtain ⟨hC, hP⟩ := PySem.W.tab_of G.T KX hO ht
  refine law_callTs (cs := [(c, P)]) (CX := CX0) (k := 10) (sp := spLaw4 (K w.params) (LT P)) (x := "_law_script") KX G.T.g G.T.b G.T.builtins G.T.nolimit hg ?_ ?_ ?_ G.T.bmain hobj hints (Nat.le_trans hlen (by decide)) ⟨rfl, by decide, by decide⟩ ?_ hb ?_ fun H e s' z => z
  · intro p hp
    rw [List.mem_singleton.mp hp]
    exact hP
  · intro p hp
    rw [List.mem_singleton.mp hp]
    exact nP
  · intro p hp
    rw [List.mem_singleton.mp hp]
    exact hC
  · exact fun base h1 h2 h3 => hF base h1 h2 (h3 _ (List.mem_singleton.mpr rfl))
  · intro H h1 h2
    refine ⟨a, ns, rfl, h2, hlen, fun p hp => ?_, fun _ => rfl⟩
    rw [List.mem_singleton.mp hp]
    exact TabS.nil (h1 _ (List.mem_singleton.mpr rfl))
end Nm


open PySem PySem.W PyProof.Rows
set_option maxRecDepth 100000 in
set_option maxHeartbeats 0 in
theorem PySem.Challenge.cw_namedmoments_k04_whole_first_wrong_piece_holds : PySem.Challenge.rw_namedmoments_k04_whole_first_wrong_piece.Holds := by
  w_on; o_law; k_head; (case hw => w_witness2)
  k_fill
  refine' Nm.walk (l := PySem.Challenge.rw_namedmoments_k04_whole_first_wrong_piece) rfl rfl (fun w h Y => PySem.W.km_in_of Y) ?hO ?F
  (case hO => rfl)
  case F =>
    intro w mg fa h KX G hmg
    refine' Nm.all_mk (tO := 320) (file := "/claim/cut.py") KX G hmg ?pf ?ae ?ab ?ax ?ac ?an ?ln ?au ?lu ?ag ?ap ?lp ?kp ?np ?a1 ?a2 ?a3 ?a4 ?a5 ?n_int ?n_len ?n_abs ?n_sum ?n_isinstance ?n_tuple ?n_list ?n_all ?n_zip ?n_bool ?n_range ?n_enumerate ?n_super ?n_sorted ?n_ValueError ?n_max ?n_str ?n_reversed ?n_divmod ?dIn ?FIn ?dNu ?FNu ?dFr ?FFr ?dNg ?FNg ?dLe ?FLe ?dCk ?FCk ?dTe ?FTe ?dRa ?FRa ?dSb ?FSb ?dFi ?FFi ?dMi ?FMi ?dSi ?FSi ?dTt ?FTt ?dRc ?FRc ?dPc ?FPc ?dSg ?FSg ?dBa ?FBa ?dRr ?FRr ?dRs ?FRs ?dFw ?FFw ?dB ?FB ?dP ?FP ?dS ?FS ?dI ?FI ?dDp ?FDp ?dCo ?FCo ?dFc ?FFc ?dLs ?FLs ?dO ?FO ?dT ?FT ?dIb ?FIb ?dQ ?FQ ?dC ?FC ?dV ?FV ?dZs ?FZs ?dZt ?FZt ?dZx ?FZx ?dZn ?FZn ?dZr ?FZr ?dZp ?FZp ?dZe ?FZe ?dZc ?FZc ?dZl ?FZl ?dZd ?FZd ?dTd ?FTd ?dWd ?FWd ?dBt ?FBt ?dL ?FL ?ai ?Fii ?xcv ?xbc ?xbd ?xxi ?xxt ?tab ?nt
    (case pf => exact ⟨by decide +kernel, by decide +kernel⟩)
    (case ae => k_is)
    (case ab => k_is)
    (case ax => k_is)
    (case ac => k_is)
    (case an => k_is)
    (case ln => k_is)
    (case au => k_is)
    (case lu => k_is)
    (case ag => k_is)
    (case ap => k_is)
    (case lp => k_is)
    (case kp => k_keys)
    (case np => rfl)
    (case a1 => k_is)
    (case a2 => k_is)
    (case a3 => k_is)
    (case a4 => k_is)
    (case a5 => k_is)
    (case n_int => k_is)
    (case n_len => k_is)
    (case n_abs => k_is)
    (case n_sum => k_is)
    (case n_isinstance => k_is)
    (case n_tuple => k_is)
    (case n_list => k_is)
    (case n_all => k_is)
    (case n_zip => k_is)
    (case n_bool => k_is)
    (case n_range => k_is)
    (case n_enumerate => k_is)
    (case n_super => k_is)
    (case n_sorted => k_is)
    (case n_ValueError => k_is)
    (case n_max => k_is)
    (case n_str => k_is)
    (case n_reversed => k_is)
    (case n_divmod => k_is)
    (case dIn => k_is)
    (case FIn => refine' Nm.def_mk ?l ?c ?k; (case l => k_is); (case c => k_is); (case k => k_is))
    (case dNu => k_is)
    (case FNu => refine' Nm.def_mk ?l ?c ?k; (case l => k_is); (case c => k_is); (case k => k_is))
    (case dFr => k_is)
    (case FFr => refine' Nm.def_mk ?l ?c ?k; (case l => k_is); (case c => k_is); (case k => k_is))
    (case dNg => k_is)
    (case FNg => refine' Nm.def_mk ?l ?c ?k; (case l => k_is); (case c => k_is); (case k => k_is))
    (case dLe => k_is)
    (case FLe => refine' Nm.def_mk ?l ?c ?k; (case l => k_is); (case c => k_is); (case k => k_is))
    (case dCk => k_is)
    (case FCk => refine' Nm.def_mk ?l ?c ?k; (case l => k_is); (case c => k_is); (case k => k_is))
    (case dTe => k_is)
    (case FTe => refine' Nm.def_mk ?l ?c ?k; (case l => k_is); (case c => k_is); (case k => k_is))
    (case dRa => k_is)
    (case FRa => refine' Nm.def_mk ?l ?c ?k; (case l => k_is); (case c => k_is); (case k => k_is))
    (case dSb => k_is)
    (case FSb => refine' Nm.def_mk ?l ?c ?k; (case l => k_is); (case c => k_is); (case k => k_is))
    (case dFi => k_is)
    (case FFi => refine' Nm.def_mk ?l ?c ?k; (case l => k_is); (case c => k_is); (case k => k_is))
    (case dMi => k_is)
    (case FMi => refine' Nm.def_mk ?l ?c ?k; (case l => k_is); (case c => k_is); (case k => k_is))
    (case dSi => k_is)
    (case FSi => refine' Nm.def_mk ?l ?c ?k; (case l => k_is); (case c => k_is); (case k => k_is))
    (case dTt => k_is)
    (case FTt => refine' Nm.def_mk ?l ?c ?k; (case l => k_is); (case c => k_is); (case k => k_is))
    (case dRc => k_is)
    (case FRc => refine' Nm.def_mk ?l ?c ?k; (case l => k_is); (case c => k_is); (case k => k_is))
    (case dPc => k_is)
    (case FPc => refine' Nm.def_mk ?l ?c ?k; (case l => k_is); (case c => k_is); (case k => k_is))
    (case dSg => k_is)
    (case FSg => refine' Nm.def_mk ?l ?c ?k; (case l => k_is); (case c => k_is); (case k => k_is))
    (case dBa => k_is)
    (case FBa => refine' Nm.def_mk ?l ?c ?k; (case l => k_is); (case c => k_is); (case k => k_is))
    (case dRr => k_is)
    (case FRr => refine' Nm.def_mk ?l ?c ?k; (case l => k_is); (case c => k_is); (case k => k_is))
    (case dRs => k_is)
    (case FRs => refine' Nm.def_mk ?l ?c ?k; (case l => k_is); (case c => k_is); (case k => k_is))
    (case dFw => k_is)
    (case FFw => refine' Nm.def_mk ?l ?c ?k; (case l => k_is); (case c => k_is); (case k => k_is))
    (case dB => k_is)
    (case FB => refine' Nm.def_mk ?l ?c ?k; (case l => k_is); (case c => k_is); (case k => k_is))
    (case dP => k_is)
    (case FP => refine' Nm.def_mk ?l ?c ?k; (case l => k_is); (case c => k_is); (case k => k_is))
    (case dS => k_is)
    (case FS => refine' Nm.def_mk ?l ?c ?k; (case l => k_is); (case c => k_is); (case k => k_is))
    (case dI => k_is)
    (case FI => refine' Nm.def_mk ?l ?c ?k; (case l => k_is); (case c => k_is); (case k => k_is))
    (case dDp => k_is)
    (case FDp => refine' Nm.def_mk ?l ?c ?k; (case l => k_is); (case c => k_is); (case k => k_is))
    (case dCo => k_is)
    (case FCo => refine' Nm.def_mk ?l ?c ?k; (case l => k_is); (case c => k_is); (case k => k_is))
    (case dFc => k_is)
    (case FFc => refine' Nm.def_mk ?l ?c ?k; (case l => k_is); (case c => k_is); (case k => k_is))
    (case dLs => k_is)
    (case FLs => refine' Nm.def_mk ?l ?c ?k; (case l => k_is); (case c => k_is); (case k => k_is))
    (case dO => k_is)
    (case FO => refine' Nm.defc_mk ?l ?hh ?k; (case l => k_is); (case hh => k_is); (case k => k_is))
    (case dT => k_is)
    (case FT => refine' Nm.def_mk ?l ?c ?k; (case l => k_is); (case c => k_is); (case k => k_is))
    (case dIb => k_is)
    (case FIb => refine' Nm.def_mk ?l ?c ?k; (case l => k_is); (case c => k_is); (case k => k_is))
    (case dQ => k_is)
    (case FQ => refine' Nm.def_mk ?l ?c ?k; (case l => k_is); (case c => k_is); (case k => k_is))
    (case dC => k_is)
    (case FC => refine' Nm.def_mk ?l ?c ?k; (case l => k_is); (case c => k_is); (case k => k_is))
    (case dV => k_is)
    (case FV => refine' Nm.def_mk ?l ?c ?k; (case l => k_is); (case c => k_is); (case k => k_is))
    (case dZs => k_is)
    (case FZs => refine' Nm.def_mk ?l ?c ?k; (case l => k_is); (case c => k_is); (case k => k_is))
    (case dZt => k_is)
    (case FZt => refine' Nm.def_mk ?l ?c ?k; (case l => k_is); (case c => k_is); (case k => k_is))
    (case dZx => k_is)
    (case FZx => refine' Nm.def_mk ?l ?c ?k; (case l => k_is); (case c => k_is); (case k => k_is))
    (case dZn => k_is)
    (case FZn => refine' Nm.def_mk ?l ?c ?k; (case l => k_is); (case c => k_is); (case k => k_is))
    (case dZr => k_is)
    (case FZr => refine' Nm.def_mk ?l ?c ?k; (case l => k_is); (case c => k_is); (case k => k_is))
    (case dZp => k_is)
    (case FZp => refine' Nm.def_mk ?l ?c ?k; (case l => k_is); (case c => k_is); (case k => k_is))
    (case dZe => k_is)
    (case FZe => refine' Nm.def_mk ?l ?c ?k; (case l => k_is); (case c => k_is); (case k => k_is))
    (case dZc => k_is)
    (case FZc => refine' Nm.def_mk ?l ?c ?k; (case l => k_is); (case c => k_is); (case k => k_is))
    (case dZl => k_is)
    (case FZl => refine' Nm.def_mk ?l ?c ?k; (case l => k_is); (case c => k_is); (case k => k_is))
    (case dZd => k_is)
    (case FZd => refine' Nm.def_mk ?l ?c ?k; (case l => k_is); (case c => k_is); (case k => k_is))
    (case dTd => k_is)
    (case FTd => refine' Nm.def_mk ?l ?c ?k; (case l => k_is); (case c => k_is); (case k => k_is))
    (case dWd => k_is)
    (case FWd => refine' Nm.def_mk ?l ?c ?k; (case l => k_is); (case c => k_is); (case k => k_is))
    (case dBt => k_is)
    (case FBt => refine' Nm.def_mk ?l ?c ?k; (case l => k_is); (case c => k_is); (case k => k_is))
    (case dL => k_is)
    (case FL => refine' Nm.def_mk ?l ?c ?k; (case l => k_is); (case c => k_is); (case k => k_is))
    (case ai => k_is)
    (case Fii => refine' Nm.def_mk ?l ?c ?k; (case l => k_is); (case c => k_is); (case k => k_is))
    (case xcv => kernel_rfl)
    (case xbc => k_is)
    (case xbd => kernel_rfl)
    (case xxi => refine' Nm.xi_mk Nm.sh_bad Nm.fn_index ?iC ?l1 ?c1 ?tI ?l2 ?l3 ?v2 ?opq ?hh; (case iC => k_is); (case l1 => k_is); (case c1 => k_is); (case tI => k_is); (case l2 => k_is); (case l3 => k_is); (case v2 => rfl); (case opq => k_is); (case hh => kernel_rfl))
    (case xxt => refine' Nm.xi_mk Nm.sh_txt Nm.fn_index ?iC ?l1 ?c1 ?tI ?l2 ?l3 ?v2 ?opq ?hh; (case iC => k_is); (case l1 => k_is); (case c1 => k_is); (case tI => k_is); (case l2 => k_is); (case l3 => k_is); (case v2 => rfl); (case opq => k_is); (case hh => kernel_rfl))
    (case tab => kernel_rfl)
    (case nt => kernel_rfl)
