import PyProof.Rows.All
import Wide.All
import OpenK.AllK
import Wide.FinOn
import HandS.Base
import HandS.Call
import HandS.List
import HandS.Exc
import HandS.ExcOwn
import HandS.ExcInit
import HandS.ExcIs
import HandS.ExcField
import HandS.ExcValue
import HandS.IsInst
import HandS.Wide
import HandS.Comp
import HandS.Ends
import HandS.Words
import HandS.Iter
import HandS.Text
import HandS.Evl
import HandS.DeepEq
import PySem.Challenge.RW_hardbits_k00_errors_stand_apart
section
set_option Elab.async false
set_option linter.all false
set_option maxRecDepth 100000
set_option maxHeartbeats 2000000
/-! Exceptions of own classes as values: made, asked for their class, their fields read. -/
namespace PySem.W
open PySem PySem.Spec PySem.Calls PyProof.Rows
section
variable {prog : Program} {w : World} {A : Around} {E : Value → Shared → Prop} {s : Shared} {K : Frag} {x D : Addr} {ox : Obj} {od : Option Obj}
theorem hb_findObj {C : Addr} {name : Str} {a g : Value} (hc : (clsIn K C).isSome = true) (ha : findIn K (.ref C) name = some (some a)) (hg : specialIn K a "__get__" = some (some g)) (ht : takesIn K a = some true) : findObj K C od name = some (.bind g a) := by
  obtain ⟨cd, hc⟩ := Option.isSome_iff_exists.mp hc
  unfold findObj
  rw [hc, Option.bind_some, ha, Option.bind_some]
  simp [hg, ht]
theorem hb_kin {Q : Option Value → Shared → Prop} (hga : findIn K (.ref D) "__getattribute__" = some (some (.builtin "BaseException.__getattribute__"))) (hgt : findIn K (.ref D) "__getattr__" = some none) (hsub : subIn K (.ref D) (.type "BaseException") = some true)
    (hdct : hasDictIn K D = true) (ha : findIn K (.ref D) "__class__" = some (some (.builtin "object.__class__")))
    (hn : specialIn K (.builtin "object.__class__") "__get__" = some (some (.builtin "getset_descriptor.__get__"))) (htk : takesIn K (.builtin "object.__class__") = some true) (hm : mroIn K D (.type "object") = some true)
    (X : K.In s.heap) (I : InstAt s.heap x ox D od) (h : Q (some (.ref D)) { s with toks := s.toks + 1 }) : wpAny (model prog w) A (getAttr? (.ref x) "__class__") Q E s := by
  have hf : findObj K D od "__class__" = some (.bind (.builtin "getset_descriptor.__get__") (.builtin "object.__class__")) := hb_findObj (by obtain ⟨cd, hc, _⟩ := any_some hdct; rw [hc]; rfl) ha hn htk
  obtain ⟨hp, g, d, t, os⟩ := s
  have L0 := I.type (M := model prog w)
  have L1 := looks_findIn (M := model prog w) X hga
  have L2 := looks_findIn (M := model prog w) X hgt
  have L3 := looks_find (M := model prog w) X I hf
  have sub : Looks (model prog w) hp (isInstance (.ref x) (.type "BaseException")) true := L0.andThen (looks_subIn X hsub)
  have hx0 : (false && onTheHeap (Value.builtin "BaseException.__getattribute__")) = false := rfl
  have hx2 : (Value.builtin "BaseException.__getattribute__" == Value.builtin "object.__getattribute__") = false := by decide +kernel
  have hx1 : (onTheHeap (Value.ref D) && Value.builtin "BaseException.__getattribute__" == Value.builtin "object.__getattribute__") = false := by rw [hx2]; rfl
  unfold getAttr? getAttrBy? getAttrBy
  refine wpAny_bind (wpAny_mkText (wpAny_bind (wpAny_attempt (wpAny_holding (wpAny_bind (L0.at (wpAny_bind (L1.at ?_))))))))
  show wpAny _ _ (if (onTheHeap (Value.ref D) && Value.builtin "BaseException.__getattribute__" == Value.builtin "object.__getattribute__") = true then _ else _) _ _ _
  rw [hx1, if_neg Bool.false_ne_true]
  unfold getAttrByItsOwn hookBefore
  refine wpAny_bind ?_
  rw [if_pos (show onTheHeap (Value.ref D) = true from rfl)]
  refine L2.at ?_
  refine wpAny_bind (wpAny_attempt (wpAny_holding ?_))
  unfold callGetattribute
  rw [hx0, if_neg Bool.false_ne_true]
  unfold boundAndCalled
  rw [PySem.F.excAttr_ValueError.ga.bind (.ref x)]
  refine wpAny_bind (wpAny_pure ?_)
  show wpAny _ _ (call (.builtin "BaseException.__getattribute__") [.ref x, .str "__class__" t]) _ _ _
  refine wpAny_call (codeAny_call_builtin PySem.F.excAttr_ValueError.ga.plain PySem.F.entry_bexc_ga ?_)
  refine @check_slot (model prog w) _ _ ⟨hp, g, d, t + 1, os⟩ "BaseException.__getattribute__" "BaseException" "__getattribute__" (.ref x) [.str "__class__" t] [] _ (by decide +kernel) (by decide +kernel) sub (PySem.F.args_bexc_ga (.ref x) (.str "__class__" t)) ?_
  unfold Builtin.«object.__getattribute__»
  refine wpAny_bind (wpAny_of_eq (a := ((Value.ref x : Value), [Value.str "__class__" t])) (by first | rfl | (simp only [slotArgs]; rfl)) ?_)
  refine wpAny_bind (wpAny_pure (wpAny_bind (L0.at (wpAny_bind (L3.at ?_)))))
  show wpAny _ _ (holding [Value.builtin "object.__class__"] (call (.builtin "getset_descriptor.__get__") [.builtin "object.__class__", .ref x, .ref D]) >>= ret) _ _ _
  refine wpAny_bind (wpAny_holding (wpAny_call (class_get (s := ⟨hp, g, d, t + 1, os⟩) (ox := ox) (od := od) X I hm ?_)))
  refine wpAny_pure ?_
  show wpAny _ _ (handedOut (.ref D)) _ _ _
  rw [handedOut_of (v := .ref D) rfl]
  first
    | exact wpAny_pure (wpAny_pure h)
    | exact wpAny_pure h
    | exact wpAny_pure (wpAny_bind (wpAny_pure (wpAny_pure h)))
theorem hb_kitx (hga : findIn K (.ref D) "__getattribute__" = some (some (.builtin "BaseException.__getattribute__"))) (hgt : findIn K (.ref D) "__getattr__" = some none) (hsub : subIn K (.ref D) (.type "BaseException") = some true) (hdct : hasDictIn K D = true) (ha : findIn K (.ref D) "__class__" = some (some (.builtin "object.__class__")))
    (hn : specialIn K (.builtin "object.__class__") "__get__" = some (some (.builtin "getset_descriptor.__get__"))) (htk : takesIn K (.builtin "object.__class__") = some true) (hm : mroIn K D (.type "object") = some true) :
    KitX K (.ref x) (.ref D) (fun h => InstAt h x ox D od) where
  ty := fun _ _ _ I => I.type
  it := fun _ _ X _ => by
    obtain ⟨cdD, hcD, _⟩ := any_some hdct
    unfold clsIn at hcD
    split at hcD
    · rename_i c' d' cd' sl' ho
      intro A' Q' E' s' k q
      unfold isType loadHead
      exact wpAny_bind (wpAny_loadPart (k _ _ (X _ _ ho)) (wpAny_pure q))
    · cases hcD
  ne := fun h tp dd its n sl X htp => by
    obtain ⟨cdD, hcD, _⟩ := any_some hdct
    refine Bool.eq_false_iff.mpr fun q => ?_
    have e : D = tp := Value.ref.inj (beq_iff_eq.mp q)
    subst e
    unfold clsIn at hcD
    split at hcD
    · rename_i c' d' cd' sl' ho
      have z := (X _ _ ho).symm.trans htp
      cases z
    · cases hcD
  ca := fun X I k => hb_kin hga hgt hsub hdct ha hn htk hm X I k
end
end PySem.W

namespace L2
open PySem PySem.Spec PyProof.Rows
section
variable {X : Cx}
/-- at a: an exception of the class at D: one made plainly, or one with its own dict -/
def IsEx (H : Hp) (a D : Addr) : Prop := H a = some (ExO (.ref D) a) ∨ ∃ d fs, H a = some (exo a D (some d)) ∧ H d = some (exd d fs)
theorem instAt_of {pins : List (Addr × Obj)} {σ : St} {H : Hp} {s : Shared} {a D : Addr} (I : Inv X pins σ H s) (h : IsEx H a D) : ∃ ox od, PySem.W.InstAt s.heap a ox D od := by
  rcases h with h | ⟨d, fs, h, hd⟩
  · obtain ⟨⟨oe, vs, ho, hz, hdt, _⟩, _, _⟩ := I.hok a _ h
    refine ⟨oe, none, ?_⟩
    obtain ⟨oc, od, oda, osl⟩ := oe
    obtain ⟨h1, h2⟩ := hz
    dsimp only at h1 h2 hdt
    subst h1 h2 hdt
    exact ⟨ho, rfl, rfl, trivial⟩
  · obtain ⟨t1, ho⟩ := exo_at I.hok h
    obtain ⟨mA, hns, _⟩ := exd_at I.hok hd
    obtain ⟨o, ho2, _⟩ := lookIn_ns hns
    exact ⟨_, some o, ho, rfl, rfl, ho2⟩
/-- isinstance(e, c), e a tracked exception -/
def rIsX (K : PySem.W.Frag) : List V → Hp → VK → Prop := fun xs H Q => ∃ (a D : Addr) (c : V) (cv : Value) (b : Bool), xs = [.ref a, c] ∧ IsEx H a D ∧ ExcC K D ∧ (∀ u, RelV c u → u = cv) ∧ PySem.W.kitOne K (.ref D) cv = some b ∧ Q (.bl b) H
theorem call_isX : CallR X (.builtin "isinstance") (rIsX X.K) := by
  intro pins s σ H xs us Q I r h
  obtain ⟨a, D, c, cv, b, rfl, hx, C, hcv, e, q⟩ := h
  cases r with
  | cons rx rr =>
    cases rr with
    | cons rt rr =>
      cases rr
      cases rx
      have ec := hcv _ rt
      subst ec
      obtain ⟨ox, od, J⟩ := instAt_of I hx
      exact PySem.W.kia_one (PySem.W.hb_kitx C.hg C.hk C.hs C.hd C.ha C.hn C.ht C.hm) I.kIn J e (fun z => nomatch z) fun tk => ⟨.bl b, H, I.kept (t' := tk) fun _ _ z => z, rfl, q⟩

/-- e.n, e a tracked exception with its own dict -/
def tXv (K : PySem.W.Frag) (f : Str) (te : TE) : TE := fun σ H Q => te σ H fun x H1 => ∃ (a C dd : Addr) (fs : List (Str × V)) (v : V), x = .ref a ∧ XfC K C ∧ PySem.W.findIn K (.ref C) f = some none ∧ H1 a = some (exo a C (some dd)) ∧ H1 dd = some (exd dd fs) ∧ fs.lookup f = some v ∧ Q v H1
theorem pe_xv {e : Expr} {te : TE} {pos : Pos} {n : Str} (he : PE X e te) (hb : attributeBase e n X.env (eval e X.env) = eval e X.env := by rfl) :
    PE X (.Attribute e n pos) (tXv X.K n te) := by
  refine ⟨fun pins s σ H Q I h => ?_⟩
  refine attr_of hb (thn (he.run pins s σ H _ I h) fun u s1 hh => ?_)
  obtain ⟨x, H1, I1, rx, a, C, dd, fs, v, ex, T, hno, ea, ed, l, q⟩ := hh
  subst ex
  obtain rfl : u = Value.ref a := rx
  obtain ⟨t1, ho1⟩ := exo_at I1.hok ea
  obtain ⟨mA, hns, hr⟩ := exd_at I1.hok ed
  obtain ⟨od, ho, hl⟩ := lookIn_ns hns
  obtain ⟨u, hu, ru⟩ := RelO.some_of (v := v) (o := mA n) (by rw [← l]; exact hr n)
  have J : PySem.W.InstAt s1.heap a _ C (some od) := ⟨ho1, rfl, rfl, ho⟩
  exact HandSPX.exc_get I1.kIn J T.ga T.gg T.exC (PySem.W.findObj_own T.hdC hno rfl (by rw [hl, hu])) (handed_of ru) ⟨v, H1, I1.tok _, ru, q⟩

/-- B.__init__(self, ..), B an own class above that has no __init__ of its own -/
theorem pe_hinit {x : Str} {B : Addr} {e : Expr} {es : List Expr} {ta : TA} {p1 p2 pos : Pos} {pl : Sem Bool} (hg : Gl X x) (hm : X.mg x = some (.ref B))
    (hr : PySem.W.specialIn X.K (.ref B) "__getattribute__" = some (some (.builtin "type.__getattribute__"))) (rd : PySem.W.readsIn X.K B (.type "type") = true)
    (vV : PySem.W.findCls X.K (.ref B) (.type "type") "__init__" = some (.val (.builtin "ValueError.__init__"))) (ha : PA X (e :: es) ta)
    (hdb : (x == ("__debug__" : Str)) = false := by decide)
    (hc : eval (.Call (.Attribute (.Name x p1) "__init__" p2) (e :: es) [] pos) X.env = (do
      let ov ← eval (.Name x p1) X.env
      standAt p2.atName
      let (f, first) ← holding [ov] (getMethod ov "__init__" pl)
      callWith pos f first (backTo pos (starEach (e :: es) X.env)) (backToKw pos (keywordEach [] X.env))) := by rfl)
    (he : starEach (e :: es) X.env = (false, eval e X.env) :: starEach es X.env := by rfl) (hpl : (backTo pos (starEach es X.env)).any (·.1) = false := by rfl) :
    PE X (.Call (.Attribute (.Name x p1) "__init__" p2) (e :: es) [] pos) (tVeI X.K ta) := by
  refine ⟨fun pins s σ H Q I h => ?_⟩
  refine PySem.W.methodCall_KW (ld_glob I hg hm ?_ hdb) hc
  refine PySem.W.method_cls I.kIn hr ?_
  refine PySem.W.cls_value I.kIn rd vV (by decide +kernel) ?_
  show wpAny _ _ (callWith pos (Value.builtin "ValueError.__init__") [] (backTo pos (starEach (e :: es) X.env)) []) _ _ _
  refine PyProof.Rows.callWith_method1 (thn (ha.run pos pins _ σ H _ (I.tok _) h) fun us s1 ⟨vs, H1, I1, r1, a, C, ws, ev, hl, T, ea, q⟩ => ?_) he hpl
  subst ev
  cases r1 with
  | @cons _ u0 _ ur ra rw' =>
    obtain rfl : u0 = Value.ref a := ra
    have hlen : ur.length ≤ sizeLine := by
      rw [← Paired.length rw', sizeLine_eq]
      omega
    exact oinit_ok T I1 ea hlen fun s' J => ⟨.non, H1, J, rfl, q⟩

/-- C(e, ..), C's own __init__ keeping sp, as a value -/
def tMkV (C : Addr) (sp : Sp) (dvs : List V) (ta : TA) : TE := fun σ H Q => ta σ H fun vs H1 => vs.length ≤ 1000 ∧ ∀ a, H1 a = none → sp (.ref a :: (vs ++ dvs)) (upd H1 a (exo a C none))
  (fun v H2 => v = .non ∧ H2 a ≠ none ∧ Q (.ref a) H2) (fun _ _ _ => False)
theorem Un.of_new {fs : List Addr} {H H2 : Hp} {hp hp2 h2 : Heap} {a : Addr} {o : HO} (hn : H a = none) (ha : hp.objs.size ≤ a) (k : ∀ b u, hp.get? b = some u → hp2.get? b = some u) (un : Un fs [] (upd H a o) H2 hp2 h2) : Un fs [] H H2 hp h2 :=
  have nha : ∀ {b : Addr} {u : Obj}, hp.get? b = some u → b ≠ a := fun {b u} z => Nat.ne_of_lt (Nat.lt_of_lt_of_le (Heap.lt_size z) ha)
  have up : ∀ {b : Addr}, b ≠ a → H b = none → upd H a o b = none := fun {b} hb n => by rw [upd_ne hb]; exact n
  { keep := fun b u z n hf hx => un.keep b u (k b u z) (up (nha z) n) hf hx
    slot := fun b u z n hf hx => un.slot b u (k b u z) (up (nha z) n) hf hx
    free := fun b u z n hx => un.free b u (k b u z) (up (nha z) n) hx
    there := fun b u z hx => un.there b u (k b u z) hx
    tups := fun b xs z => un.tups b xs (by rw [upd_ne (ne_of_none z hn)]; exact z)
    frzs := fun b u v z => un.frzs b u v (by rw [upd_ne (ne_of_none z hn)]; exact z)
    tbls := fun b ps z => un.tbls b ps (by rw [upd_ne (ne_of_none z hn)]; exact z) }
theorem pe_mkV {CX : CXT} {x : Str} {C fI : Addr} {k : Nat} {fd : FuncData} {ps : List Str} {sp : Sp} {ds : List Value} {dvs : List V} {e : Expr} {es : List Expr} {ta : TA} {p pos : Pos} (T : OexC X.K C) (iC : PySem.W.findIn X.K (.ref C) "__init__" = some (some (.ref fI))) (tI : PySem.W.typeIn X.K (.ref fI) = some (.type "function"))
    (F1 : FnOk X.prog X.w X.K X.mg X.base CX k fI fd ps sp) (hr : Room (k + 1) X.A) (hb : Binds X.K fd ps ds) (hd : Vals dvs ds) (hx : Passes CX X (fun _ _ _ => False)) (hg : Gl X x) (hm : X.mg x = some (.ref C)) (ha : PA X (e :: es) ta)
    (hdb : (x == ("__debug__" : Str)) = false := by decide) (he : starEach (e :: es) X.env = (false, eval e X.env) :: starEach es X.env := by rfl) (hpl : (backTo pos (starEach es X.env)).any (·.1) = false := by rfl) :
    PE X (.Call (.Name x p) (e :: es) [] pos) (tMkV C sp dvs ta) := by
  refine ⟨fun pins s σ H Q I h => ?_⟩
  obtain ⟨nm, q, N, bs, bm, sn, sub, ab, col, dd, k0, k1, k2, k3, k5, hC, hbm⟩ := T.cls
  refine wpAny_Call_Name_kw (ld_glob I hg hm ?_ hdb)
  refine PySem.W.callWith_K (h₀ := X.base) I.ok.mod.kin T.kC (thn (ha.run pos pins s σ H _ I h) fun us s1 ⟨vs, H1, I1, r1, hz, q1⟩ => ⟨I1.kIn, ?_⟩) he hpl
  show wpAny _ _ (call (.ref C) us) _ _ _
  obtain ⟨hp, g, dr, tk, os⟩ := s1
  have hsz : hp.objs.size ≤ hp.objs.size + 1 := Nat.le_succ _
  have hn : H1 (hp.objs.size + 1) = none := I1.hok.fresh hsz
  have hq := q1 (hp.objs.size + 1) hn
  have kk : ∀ b o, hp.get? b = some o → ((hp.push (PySem.W.kdv_tup us)).push (PySem.HandSPX.excO C hp.objs.size)).get? b = some o := fun b o e => Heap.get?_push_of_some _ (Heap.get?_push_of_some _ e)
  have hget : ((hp.push (PySem.W.kdv_tup us)).push (PySem.HandSPX.excO C hp.objs.size)).get? (hp.objs.size + 1) = some (PySem.HandSPX.excO C hp.objs.size) := by heap_get
  have I2 : Inv X pins σ (upd H1 (hp.objs.size + 1) (exo (hp.objs.size + 1) C none)) ⟨(hp.push (PySem.W.kdv_tup us)).push (PySem.HandSPX.excO C hp.objs.size), g, dr, tk, os⟩ :=
    I1.laid (t' := tk) (a := hp.objs.size + 1) (o := exo (hp.objs.size + 1) C none) (h' := (hp.push (PySem.W.kdv_tup us)).push (PySem.HandSPX.excO C hp.objs.size)) kk hsz (exo_ok hget)
  have r3 : Vals (V.ref (hp.objs.size + 1) :: (vs ++ dvs)) (Value.ref (hp.objs.size + 1) :: (us ++ ds)) := .cons rfl (r1.append hd)
  have hl : (Value.ref (hp.objs.size + 1) :: us ++ ds).length = ps.length := by
    have e := r3.length
    rw [F1.len _ _ _ _ hq] at e
    exact e.symm
  have hus : us.length ≤ sizeLine := by
    rw [← Paired.length r1, sizeLine_eq]
    omega
  refine wpAny_call (PySem.HandSPX.call_own F.excBase_ValueError (fun Y => PySem.HandSPX.refsVE_contains Y bm hbm) (I1.kIn _ _ hC) (PySem.W.looks_findIn I1.kIn iC) (fun self => PySem.W.bind_fn I1.kIn self tI) hus
    (codeAny_mono (F1.run _ X.stack _ _ ⟨Value.ref (hp.objs.size + 1) :: us, []⟩ (Value.ref (hp.objs.size + 1) :: (us ++ ds)) _ _ (fun _ _ _ => False) (hr.make C us []) (I2.env0.make C us []) (hb _ (Value.ref (hp.objs.size + 1) :: us) I2.kIn hl) r3 hq) fun r s' hq' => ?_))
  cases r with
  | error er => exact hx pins σ _ _ er s' I2 hq'
  | ok fl =>
    cases fl with
    | ret u =>
      obtain ⟨v, H2, os2, bare2, un2, hok2, rv, ev, hne, q2⟩ := hq'
      subst ev
      exact ⟨rv, .ref (hp.objs.size + 1), H2, I1.call' (ch := []) os2 (Un.of_new hn hsz kk un2) hok2 bare2 (fun b z => absurd z (by simp)), rfl, q2⟩
    | next => exact False.elim hq'
    | brk => exact False.elim hq'
    | cont => exact False.elim hq'
end
end L2
end
section
set_option Elab.async false
set_option linter.all false
set_option maxRecDepth 100000
set_option maxHeartbeats 2000000
/-! Defs called where no guard stands (so that repr is told), powers, repr of data. -/
namespace L2
open PySem PySem.Spec PyProof.Rows
def CPowB (i j : Int) : Prop := 0 ≤ j ∧ (PySem.Builtin.Int.intBits i : Int) * j ≤ 2 ^ 27
theorem op_powB {X : Cx} : OpR X (binaryOp .Pow) (rI CPowB fun i j => .int (i ^ j.toNat)) := opI fun _ _ _ _ _ _ _ hc q => pow_int hc.1 hc.2 q

/-- a datum that repr tells: as Dp, an empty dict too -/
inductive Dq (K : PySem.W.Frag) (H : Hp) : V → PyData → Prop
  | of {v : V} {d : PyData} (h : Dp K H v d) : Dq K H v d
  | dict {a : Addr} (h : H a = some (.dK [])) : Dq K H (.ref a) (.dict [])
theorem Dp.noDict {K : PySem.W.Frag} {H : Hp} : ∀ {v : V} {d : PyData}, Dp K H v d → d.hasDict = false := by
  have one : ∀ (d : PyData) (v : V), Dp K H v d → d.hasDict = false := fun d =>
    PyData.rec (motive_1 := fun d => ∀ v, Dp K H v d → d.hasDict = false) (motive_2 := fun ds => ∀ vs, DpAll K H vs ds → PyData.hasDictAll ds = false) (motive_3 := fun _ => True) (motive_4 := fun _ => True)
      (fun _ _ => by simp [PyData.hasDict]) (fun _ _ _ => by simp [PyData.hasDict]) (fun _ _ _ => by simp [PyData.hasDict]) (fun _ _ _ => by simp [PyData.hasDict])
      (fun ds ih v h => by cases h with | lst hs ha => simpa [PyData.hasDict] using ih _ ha)
      (fun ds ih v h => by cases h with | tup hs ha => simpa [PyData.hasDict] using ih _ ha)
      (fun _ _ v h => by cases h)
      (fun _ _ => by simp [PyData.hasDictAll])
      (fun d ds ih ihs vs h => by
        cases h with
        | cons h1 h2 => simp [PyData.hasDictAll, ih _ h1, ihs _ h2])
      trivial (fun _ _ _ _ => trivial) (fun _ _ _ _ => trivial) d
  exact fun {v d} h => one d v h
section
variable {X : Cx}
/-- repr(x) -/
def rRepr (K : PySem.W.Frag) : List V → Hp → VK → Prop := fun xs H Q => ∃ (x : V) (d : PyData), xs = [x] ∧ Dq K H x d ∧ d.showable = true ∧ d.depth ≤ 60 ∧ d.shown.length ≤ sizeLine ∧ Q (.str d.shown) H
theorem call_reprD (hg : X.A.guards = some []) (hu : X.A.units + 64 < cLine) : CallR X (.builtin "repr") (rRepr X.K) := by
  intro pins s σ H xs us Q I r h
  obtain ⟨x, d, rfl, hd, hs, hdp, hz, q⟩ := h
  obtain ⟨u, rfl, ru⟩ := vals1 r
  have fin : ∀ h' t tk, (∀ b o, s.heap.get? b = some o → h'.get? b = some o) → EP X pins σ Q (.str d.shown t) { s with heap := h', toks := tk } := fun h' t tk k =>
    ⟨.str d.shown, H, I.kept k, ⟨_, rfl⟩, q⟩
  have isref : ∀ (a : Addr) (as : List Addr), u = .ref a → Reads s.heap (.ref a) d as → (d.hasDict = true → sysModules ∉ as) → wpAny (model X.prog X.w) X.A (call (.builtin "repr") [u]) (EP X pins σ Q) X.xe s := fun a as e rr hm => by
    subst e
    exact repr_of_reads' rr hs hm hg (by omega) (fun _ _ e => e) fin hz
  cases hd with
  | of hd =>
    obtain ⟨as, rr⟩ := Dp.reads I d x u hd ru
    have nd := hd.noDict
    cases hd with
    | non => cases ru; exact PySem.P.repr_of_none (fin _ _ _ fun _ _ e => e)
    | bl b => cases ru; exact PySem.P.repr_of_bool (by cases b <;> exact fin _ _ _ fun _ _ e => e)
    | int i =>
      obtain ⟨t, rfl⟩ := ru
      exact PySem.P.repr_of_int (by simpa [PyData.showable] using hs) (fin _ _ _ fun _ _ e => e)
    | str z => obtain ⟨t, rfl⟩ := ru; exact PySem.P.repr_of_str (fin _ _ _ fun _ _ e => e) hz
    | lst h1 h2 => exact isref _ as ru (by cases ru; exact rr) (PyData.noDict_hsm nd)
    | tup h1 h2 => exact isref _ as ru (by cases ru; exact rr) (PyData.noDict_hsm nd)
  | @dict a ha =>
    obtain ⟨_, hne, vs, hkv, hdo⟩ := I.hok a _ ha
    cases hkv
    obtain ⟨o, es, ep, ho, hx, hdt, _, hps, _⟩ := hdo
    have hes' : es.toList = [] := List.eq_nil_of_length_eq_zero hps.length
    have rr : Reads s.heap (.ref a) (.dict []) (a :: [] ++ []) := Reads.dict (es := es) (n := ep) (as := []) (bs := []) ho hx.1 hdt (by rw [hes']; exact .nil) (by rw [hes']; exact .nil)
    refine isref a _ ru rr fun _ hm => ?_
    have : sysModules = a := by simpa using hm
    subst this
    simp at hne
end
section
variable {P : Program} {w : World} {K : PySem.W.Frag} {mg : Str → Option Value} {base : Heap}
/-- as FnOk, where no guard stands at the call -/
structure FnG (P : Program) (w : World) (K : PySem.W.Frag) (mg : Str → Option Value) (base : Heap) (CX : CXT) (k : Nat) (f : Addr) (fd : FuncData) (ps : List Str) (sp : Sp) : Prop where
  len : ∀ vs H Q E, sp vs H Q E → vs.length = ps.length
  run : ∀ (A : Around) (outer : List Env) (s : Shared) (H : Hp) (args : Args) (us : List Value) (vs : List V) (Q : VK) (E : XK), A.guards = some [] → Room k A → Env0 P w K mg base A outer s H →
    BindsTo s fd args (ps.zip us) → Vals vs us → sp vs H Q E → codeAny (model P w) A (.call (.ref f) args) (CR CX outer P w H s Q E) s
/-- THE RULE for a def at one call: its body's term and reading at that call's around -/
theorem body_run {CX : CXT} {k : Nat} {f : Addr} {x qual : Str} {st : Stmt} {fd : FuncData} {N ps : List Str} (F : Fun K x qual st f fd) (S : FnScope N ps (defScope st)) {A : Around} {outer : List Env} {s : Shared} {H : Hp} {args : Args} {us : List Value} {vs : List V} {Q : VK} {E : XK}
    (hl : vs.length = ps.length) (hr : Room (k + 1) A) (e0 : Env0 P w K mg base A outer s H) (hb : BindsTo s fd args (ps.zip us)) (r : Vals vs us)
    (hbody : ∀ cdv : Value, Room k (A.deeper (envOfC qual (defScope st) s.heap.objs.size f cdv)) →
      ∃ t, PSs (cxOf CX P w K mg base N qual (defScope st) f cdv A outer s H E) (defBody st) t ∧ t { nx := fun _ H' => Q .non H', rt := Q } (start N vs) H) :
    codeAny (model P w) A (.call (.ref f) args) (CR CX outer P w H s Q E) s := by
  obtain ⟨oc, od, kV, doc, pm, an, cdv, ct, osl, rfl, lk, hcd⟩ := F.ex
  have KX : K.In s.heap := e0.mod.kin.keeps fun b o e => (e0.bs b o e).1
  refine codeAny_call_function hr.depth (KX _ _ lk) rfl S.co S.gen rfl (PySem.W.codeRec_of KX hcd) (hb _ _ _ _ ?_)
  refine wpAny_newFunctionEnv_cells S.kind (fun y hy => ?_) fun env he s1 z => ?_
  · rcases S.par y.1 (List.of_mem_zip hy).1 with q | q
    · exact .inl q
    · exact .inr ⟨q, PySem.W.cellsFrom_some _ _ _ (.inl q)⟩
  subst he
  have lim : s.heap.NoLimit := e0.mod.nolimit.keeps fun b o e => (e0.bs b o e).1
  refine ⟨lim.keeps z.toInCall.keep, codeAny_func ?_⟩
  obtain ⟨t, ht, hq⟩ := hbody cdv (hr.deeper _)
  have I := inv_start (CX := CX) (N := N) (E := E) S hr.hd e0 hl r z
  refine wpAny_mono (ht.run [] s1 (start N vs) H _ I hq) (fun fl s' hs => ?_) fun e s' hs => hs
  cases fl with
  | ret u => obtain ⟨v, _, H', J, rv, q⟩ := hs; exact ⟨v, H', J.os, J.bare, J.base, J.hok, rv, q⟩
  | next => obtain ⟨_, H', J, q⟩ := hs; exact ⟨.non, H', J.os, J.bare, J.base, J.hok, rfl, q⟩
  | brk => obtain ⟨_, _, _, q⟩ := hs; exact q.elim
  | cont => obtain ⟨_, _, _, q⟩ := hs; exact q.elim
theorem Fun.okG {k : Nat} {f : Addr} {x qual : Str} {st : Stmt} {fd : FuncData} {N ps : List Str} {sp : Sp} (F : Fun K x qual st f fd) (S : FnScope N ps (defScope st)) (len : ∀ vs H Q E, sp vs H Q E → vs.length = ps.length)
    (hbody : ∀ (cdv : Value) (A : Around) (outer : List Env) (s : Shared) (H : Hp) (vs : List V) (Q : VK) (E : XK), (A.deeper (envOfC qual (defScope st) s.heap.objs.size f cdv)).guards = some [] → Room k (A.deeper (envOfC qual (defScope st) s.heap.objs.size f cdv)) → sp vs H Q E →
      ∃ t, PSs (cxOf CX0 P w K mg base N qual (defScope st) f cdv A outer s H E).nox (defBody st) t ∧ t { nx := fun _ H' => Q .non H', rt := Q } (start N vs) H) : FnG P w K mg base CX0 (k + 1) f fd ps sp :=
  ⟨len, fun A outer s H args us vs Q E hg hr e0 hb r hsp => body_run F S (len _ _ _ _ hsp) hr e0 hb r fun cdv hr' => by
    obtain ⟨t, h, q⟩ := hbody cdv A outer s H vs Q E hg hr' hsp
    exact ⟨t, h.nox, q⟩⟩
/-- the law's promise at the caller, from what the head leaves; nothing but the script is tracked -/
theorem law_callG {a fa : Addr} {fd : FuncData} {x : Str} {sp : Sp} {mb : Str → Option Value} {k : Nat} {s₁ : Shared} {vs : List Value} {ns : List Int}
    (KX : K.In s₁.heap) (hns : s₁.heap.Ns mainGlobals mg) (hb : s₁.heap.Ns builtinsNs mb) (hbb : ∀ x : Str, x ≠ "__name__" → mb x = bootBuiltins x) (hlim : s₁.heap.NoLimit) (hg : s₁.gens = #[])
    (ha : s₁.heap.get? a = some { cls := .type "list", data := .seq vs.toArray }) (hi : IntsAre vs ns) (hl : ns.length ≤ sizeLine) (hr : Room k callerA)
    (F : ∀ base : Heap, K.In base → base.Ns mainGlobals mg → FnG P w K mg base CX0 k fa fd [x] sp) (hbind : ∀ (s : Shared) (u : Value), BindsTo s fd ⟨[u], []⟩ [(x, u)])
    (hsp : ∀ H : Hp, Only H → SqL K H a (ns.map V.int) → sp [.ref a] H (fun v _ => v = .bl true) fun _ _ _ => False) :
    codeAny (model P w) callerA (.call (.ref fa) ⟨[.ref a], []⟩) (fun r s' => r = .ok (.ret (.bool true)) ∧ OldK s₁.heap s'.heap ∧ s'.os = s₁.os ∧ AllBare s'.gens) s₁ := by
  have rv : Vals (ns.map V.int) vs := vals_ints hi
  -- the heap that is told: H, where nothing but the script may stand; what it leaves out is the base
  have core : ∀ H : Hp, (∀ b, H b = none ∨ (b = a ∧ K.lookup a = none ∧ H b = some (.frz { cls := .type "list", data := .seq vs.toArray } (.lst (ns.map V.int))))) → SqL K H a (ns.map V.int) →
      codeAny (model P w) callerA (.call (.ref fa) ⟨[.ref a], []⟩) (fun r s' => r = .ok (.ret (.bool true)) ∧ OldK s₁.heap s'.heap ∧ s'.os = s₁.os ∧ AllBare s'.gens) s₁ := by
    intro H hH hS
    have only : Only H := fun b => (hH b).imp id fun h => ⟨_, _, h.2.2⟩
    have off : ∀ {b : Addr} {o : Obj}, s₁.heap.get? b = some o → (∀ items n, o.data ≠ .seq items n) → H b = none := fun {b o} e d => by
      rcases hH b with z | ⟨rfl, _, _⟩
      · exact z
      · rw [ha] at e
        cases e
        exact absurd rfl (d _ _)
    have ns' : ∀ {b : Addr} {m : Str → Option Value}, s₁.heap.Ns b m → (hidT s₁.heap H).Ns b m := fun {b m} ⟨o, es, ep, e, d, z⟩ =>
      ⟨o, es, ep, hidT_get e (off e fun _ _ q => by rw [d] at q; cases q), d, z⟩
    have inK : K.In (hidT s₁.heap H) := fun b o e => hidT_get (KX b o e) (by
      rcases hH b with z | ⟨rfl, n, _⟩
      · exact z
      · rw [n] at e; cases e)
    have lim' : (hidT s₁.heap H).NoLimit := by
      obtain ⟨mc, h1, h2⟩ := hlim
      exact ⟨mc, ns' h1, h2⟩
    have hok : HOk P w H s₁.heap := fun b u e => by
      rcases hH b with z | ⟨rfl, _, z⟩
      · rw [z] at e; cases e
      · rw [z] at e
        cases e
        exact ⟨ha, by rw [List.length_map]; exact hl, vs, _, rv, ha⟩
    have e0 : Env0 P w K mg (hidT s₁.heap H) callerA [] s₁ H :=
      ⟨rfl, ⟨inK, ns' hns, ⟨mb, ns' hb, hbb⟩, lim'⟩, fun b o e => of_hidT e, Nat.le_of_eq (hidT_size _ _), trivial, (fun b z => nomatch z), hok, .of_eq hg⟩
    refine codeAny_mono ((F _ inK (ns' hns)).run callerA [] s₁ H ⟨[.ref a], []⟩ [.ref a] [.ref a] _ _ rfl hr e0 (hbind s₁ (.ref a)) (.cons rfl .nil) (hsp H only hS)) fun r s' h => ?_
    cases r with
    | error e => exact False.elim h
    | ok fl =>
      cases fl with
      | ret u =>
        obtain ⟨v, H', os, bare, un, hok', rv', rfl⟩ := h
        cases rv'
        refine ⟨rfl, OldK.of_keep fun b o e => ?_, os, bare⟩
        rcases hH b with z | ⟨rfl, _, z⟩
        · exact un.keep b o e z (fun q => nomatch q) (fun q => nomatch q)
        · have e2 := (hok' _ _ (un.frzs _ _ _ z)).1
          rw [ha] at e
          exact e2.trans e
      | next => exact False.elim h
      | brk => exact False.elim h
      | cont => exact False.elim h
  cases hk : K.lookup a with
  | some o =>
    have e := KX a o hk
    rw [ha] at e
    cases e
    exact core (fun _ => none) (fun _ => .inl rfl) (.inr ⟨_, vs.toArray, _, hk, rfl, rfl, rfl, by rw [List.size_toArray, hi.length]; exact hl, by simpa using rv⟩)
  | none =>
    refine core (upd (fun _ => none) a (.frz { cls := .type "list", data := .seq vs.toArray } (.lst (ns.map V.int)))) (fun b => ?_) (.inl (.inr ⟨_, upd_same⟩))
    by_cases hb : b = a
    · exact .inr ⟨hb, hk, by rw [hb]; exact upd_same⟩
    · exact .inl (upd_ne hb)
end
/-- the goal that the head leaves, from the law's promise where no guard stands -/
theorem walk_ofG {l : PySem.W.OpenLaw} {n k : Nat} {q : Program} {loose : List Str} {XP : (Str → Option Value) → Heap → Prop} {YP : World → Heap → Prop} {d : DefRec} {K : Params → PySem.W.Frag} {sp : World → Sp} {x : Str}
    (hn : l.most = some n) (hn2 : n ≤ sizeLine) (hdf : d.params.defaults = []) (hr : Room k callerA) (hY : ∀ (w : World) (h : Heap), YP w h → (K w.params).In h)
    (F : ∀ (w : World) (mg : Str → Option Value) (fa : Addr) (h : Heap), (K w.params).In h → h.Ns mainGlobals mg → mg d.name = some (.ref fa) →
      ∃ fd : FuncData, (∀ (s : Shared) (u : Value), BindsTo s fd ⟨[u], []⟩ [(x, u)]) ∧
        ∀ base : Heap, (K w.params).In base → base.Ns mainGlobals mg → FnG l.prog w (K w.params) mg base CX0 k fa fd [x] (sp w))
    (hsp : ∀ (w : World) (H : Hp) (a : Addr) (ns : List Int), ns.length ≤ n → Only H → SqL (K w.params) H a (ns.map V.int) → sp w [.ref a] H (fun v _ => v = .bl true) fun _ _ _ => False) :
    PySem.W.WalkO q loose XP YP l.row.toRowW d [] (fun f vs => PySem.call f vs) := by
  refine Att.attach_call hn hdf fun w s₀ s₁ mg mb fa o pm cd doc a vs ns G Y _ _ _ hmg hobj hints hlen hg => ?_
  obtain ⟨fd, hb, hF⟩ := F w mg fa _ (hY w _ Y) G.T.g hmg
  exact law_callG (hY w _ Y) G.T.g G.T.b G.T.builtins G.T.nolimit hg hobj hints (Nat.le_trans hlen hn2) hr hF hb fun H hO hS => hsp w H a ns hlen hO hS
end L2
end
section
set_option Elab.async false
set_option linter.all false
set_option maxRecDepth 100000
set_option maxHeartbeats 2000000
/-! Readings that a rewriter can reckon: what stands at an address is told by functions. -/
namespace HbE
open PySem PySem.Spec PyProof.Rows L2

/-- a list or a tuple that stands at an address: which of both, its items -/
def lk (H : Hp) (a : Addr) : Option (Bool × List V) := match H a with
  | some (.lst xs) => some (true, xs)
  | some (.tup xs) => some (false, xs)
  | some (.frz _ (.lst xs)) => some (true, xs)
  | some (.frz _ (.tup xs)) => some (false, xs)
  | _ => none
theorem lk_seq {K : PySem.W.Frag} {H : Hp} {a : Addr} {b : Bool} {xs : List V} (h : lk H a = some (b, xs)) : (b = true ∧ SqL K H a xs) ∨ (b = false ∧ SqT K H a xs) := by
  unfold lk at h
  split at h
  · rename_i e; cases h; exact .inl ⟨rfl, .inl (.inl e)⟩
  · rename_i e; cases h; exact .inr ⟨rfl, .inl (.inl e)⟩
  · rename_i e; cases h; exact .inl ⟨rfl, .inl (.inr ⟨_, e⟩)⟩
  · rename_i e; cases h; exact .inr ⟨rfl, .inl (.inr ⟨_, e⟩)⟩
  · cases h
theorem lk_lst {H : Hp} {a : Addr} {xs : List V} (h : H a = some (.lst xs)) : lk H a = some (true, xs) := by unfold lk; rw [h]
theorem lk_tup {H : Hp} {a : Addr} {xs : List V} (h : H a = some (.tup xs)) : lk H a = some (false, xs) := by unfold lk; rw [h]

/-- the items of the list or tuple at an address -/
def sq (H : Hp) (a : Addr) : Option (List V) := (lk H a).map (·.2)
theorem sq_lk {H : Hp} {a : Addr} {xs : List V} (h : sq H a = some xs) : ∃ b, lk H a = some (b, xs) := by
  obtain ⟨⟨b, ys⟩, h1, h2⟩ := Option.map_eq_some_iff.mp h
  cases h2
  exact ⟨b, h1⟩
theorem sq_of {H : Hp} {a : Addr} {b : Bool} {xs : List V} (h : lk H a = some (b, xs)) : sq H a = some xs := by unfold sq; rw [h]; rfl
theorem sq_lst {H : Hp} {a : Addr} {xs : List V} (h : H a = some (.lst xs)) : sq H a = some xs := sq_of (lk_lst h)
theorem sq_tup {H : Hp} {a : Addr} {xs : List V} (h : H a = some (.tup xs)) : sq H a = some xs := sq_of (lk_tup h)
theorem lk_updL {H : Hp} {a : Addr} {xs : List V} : lk (upd H a (.lst xs)) a = some (true, xs) := lk_lst upd_same
theorem lk_updT {H : Hp} {a : Addr} {xs : List V} : lk (upd H a (.tup xs)) a = some (false, xs) := lk_tup upd_same
theorem sq_updL {H : Hp} {a : Addr} {xs : List V} : sq (upd H a (.lst xs)) a = some xs := sq_of lk_updL
theorem sq_updT {H : Hp} {a : Addr} {xs : List V} : sq (upd H a (.tup xs)) a = some xs := sq_of lk_updT
theorem lk_ne {H : Hp} {a b : Addr} {o : HO} (h : b ≠ a) : lk (upd H a o) b = lk H b := by unfold lk; rw [upd_ne h]
theorem sq_ne {H : Hp} {a b : Addr} {o : HO} (h : b ≠ a) : sq (upd H a o) b = sq H b := by unfold sq; rw [lk_ne h]
theorem ne_new {H : Hp} {a p : Addr} {o : HO} (h : H a = some o) (hp : H p = none) : a ≠ p := ne_of_none h hp
theorem sq_some {H : Hp} {a : Addr} {xs : List V} (h : sq H a = some xs) : H a ≠ none := fun z => by
  obtain ⟨b, h⟩ := sq_lk h
  unfold lk at h
  rw [z] at h
  cases h
theorem sq_new {H : Hp} {a p : Addr} {xs : List V} (h : sq H a = some xs) (hp : H p = none) : a ≠ p := fun z => sq_some h (z ▸ hp)

/-- x[i] of a list or tuple -/
def rIxA : R2 := fun x y H Q => ∃ p i xs v, x = .ref p ∧ y = .int i ∧ sq H p = some xs ∧ atI xs i = some v ∧ Q v H
theorem ix_any {X : Cx} : IxR X rIxA := by
  intro value slice pins s σ H x y v u Q I rx ry h hs
  obtain ⟨p, i, xs, z, ex, ey, e, ha, q⟩ := h
  obtain ⟨b, e⟩ := sq_lk e
  rcases lk_seq (K := X.K) e with ⟨_, hl⟩ | ⟨_, ht⟩
  · exact ix_list value slice pins s σ H x y v u Q I rx ry ⟨p, xs, i, z, ex, ey, hl, ha, q⟩ hs
  · exact ix_tup value slice pins s σ H x y v u Q I rx ry ⟨p, xs, i, z, ex, ey, ht, ha, q⟩ hs

/-- x + y: ints, texts, lists (tracked) -/
def rAddA : R2 := fun x y H Q => match x, y with
  | .int i, .int j => Q (.int (i + j)) H
  | .str a, .str b => a.length + b.length ≤ sizeLine ∧ Q (.str (a ++ b)) H
  | .ref l, .ref b => ∃ xs zs, H l = some (.lst xs) ∧ H b = some (.lst zs) ∧ xs.length + zs.length ≤ sizeLine ∧ ∀ p, H p = none → Q (.ref p) (upd H p (.lst (xs ++ zs)))
  | _, _ => False
theorem op_addA {X : Cx} : OpR X (binaryOp .Add) rAddA := by
  intro pins s σ H x y v u Q I rx ry h
  unfold rAddA at h
  split at h
  · exact op_add pins s σ H _ _ v u Q I rx ry ⟨_, _, rfl, rfl, h⟩
  · exact op_add_str pins s σ H _ _ v u Q I rx ry ⟨_, _, rfl, rfl, h.1, h.2⟩
  · obtain ⟨xs, zs, h1, h2, h3, h4⟩ := h
    exact op_cat pins s σ H _ _ v u Q I rx ry ⟨_, _, xs, zs, rfl, rfl, h1, h2, h3, h4⟩
  · exact h.elim

def allO {α β : Type} (f : α → Option β) : List α → Option (List β)
  | [] => some []
  | x :: xs => match f x, allO f xs with
    | some y, some ys => some (y :: ys)
    | _, _ => none
/-- what a value is as a datum, to a depth -/
def datN : Nat → Hp → V → Option PyData
  | _, _, .non => some .none
  | _, _, .bl b => some (.bool b)
  | _, _, .int i => some (.int i)
  | _, _, .str x => some (.str x)
  | 0, _, _ => none
  | n + 1, H, .ref a => match lk H a with
    | some (true, xs) => (allO (datN n H) xs).map .list
    | some (false, xs) => (allO (datN n H) xs).map .tuple
    | none => none
  | _, _, _ => none
theorem datN_dp {K : PySem.W.Frag} {H : Hp} : ∀ (n : Nat) (v : V) (d : PyData), datN n H v = some d → Dp K H v d := by
  intro n
  induction n with
  | zero =>
    intro v d h
    cases v <;> simp [datN] at h <;> subst h <;> constructor
  | succ n ih =>
    have all : ∀ (xs : List V) (ds : List PyData), allO (datN n H) xs = some ds → DpAll K H xs ds := by
      intro xs
      induction xs with
      | nil => intro ds h; cases h; exact .nil
      | cons x xs ih2 =>
        intro ds h
        unfold allO at h
        split at h
        · rename_i y ys h1 h2
          cases h
          exact .cons (ih x y h1) (ih2 ys h2)
        · cases h
    intro v d h
    cases v with
    | ref a =>
      simp only [datN] at h
      split at h
      · rename_i xs e
        obtain ⟨ds, h1, rfl⟩ := Option.map_eq_some_iff.mp h
        rcases lk_seq (K := K) e with ⟨_, q⟩ | ⟨q, _⟩
        · exact .lst q (all xs ds h1)
        · cases q
      · rename_i xs e
        obtain ⟨ds, h1, rfl⟩ := Option.map_eq_some_iff.mp h
        rcases lk_seq (K := K) e with ⟨q, _⟩ | ⟨_, q⟩
        · cases q
        · exact .tup q (all xs ds h1)
      · cases h
    | non => simp [datN] at h; subst h; constructor
    | bl b => simp [datN] at h; subst h; constructor
    | int i => simp [datN] at h; subst h; constructor
    | str x => simp [datN] at h; subst h; constructor
    | byt b => simp [datN] at h
    | flt b => simp [datN] at h
    | ty b => simp [datN] at h
/-- == and != -/
def rEqA (neg : Bool) : R2 := fun x y H Q => if scal x y = true then Q (.bl (neg ^^ decide (x = y))) H else
  ∃ d e, datN 8 H x = some d ∧ datN 8 H y = some e ∧ SeqAt.shaped d = true ∧ SeqAt.shaped e = true ∧ Q (.bl (neg ^^ PyData.eqv d e)) H
theorem op_eqA {X : Cx} (hu : X.A.units + 64 < cLine) : OpR X (compareOp .Eq) (rEqA false) := by
  intro pins s σ H x y v u Q I rx ry h
  unfold rEqA at h
  split at h
  · rename_i hs
    exact op_eq pins s σ H x y v u Q I rx ry ⟨hs, by simpa using h⟩
  · obtain ⟨d, e, h1, h2, h3, h4, q⟩ := h
    exact op_eqD hu pins s σ H x y v u Q I rx ry ⟨d, e, datN_dp _ _ _ h1, datN_dp _ _ _ h2, h3, h4, by simpa using q⟩
theorem op_neA {X : Cx} (hu : X.A.units + 64 < cLine) : OpR X (compareOp .NotEq) (rEqA true) := by
  intro pins s σ H x y v u Q I rx ry h
  unfold rEqA at h
  split at h
  · rename_i hs
    exact op_ne pins s σ H x y v u Q I rx ry ⟨hs, by simpa using h⟩
  · obtain ⟨d, e, h1, h2, h3, h4, q⟩ := h
    exact op_neD hu pins s σ H x y v u Q I rx ry ⟨d, e, datN_dp _ _ _ h1, datN_dp _ _ _ h2, h3, h4, by simpa using q⟩

/-- len -/
def rLenA : List V → Hp → VK → Prop := fun vs H Q => ∃ p xs, vs = [.ref p] ∧ sq H p = some xs ∧ Q (.int xs.length) H
theorem call_lenA {X : Cx} : CallR X (.builtin "len") rLenA := by
  intro pins s σ H xs us Q I r h
  obtain ⟨p, ys, e, h1, q⟩ := h
  obtain ⟨b, h1⟩ := sq_lk h1
  refine call_len_seq pins s σ H xs us Q I r ⟨p, ys, e, ?_, q⟩
  rcases lk_seq (K := X.K) h1 with ⟨_, hl⟩ | ⟨_, ht⟩
  · exact .inl hl
  · exact .inr ht
/-- int, of an int or a bool -/
def rIntA : List V → Hp → VK → Prop := fun vs H Q => match vs with
  | [.int i] => Q (.int i) H
  | [.bl k] => Q (.int (if k then 1 else 0)) H
  | _ => False
theorem call_intA {X : Cx} : CallR X (.type "int") rIntA := by
  intro pins s σ H xs us Q I r h
  unfold rIntA at h
  split at h
  · exact call_int1 pins s σ H _ us Q I r (.inl ⟨_, rfl, h⟩)
  · exact call_int1 pins s σ H _ us Q I r (.inr ⟨_, rfl, h⟩)
  · exact h.elim
/-- a value's truth -/
def rTruA : V → Hp → (Bool → Hp → Prop) → Prop := fun x H Q => match x with
  | .non => Q false H
  | .bl b => Q b H
  | .int i => Q (i != 0) H
  | .ref p => ∃ xs, sq H p = some xs ∧ Q (!xs.isEmpty) H
  | _ => False
theorem tru_A {X : Cx} : TruR X rTruA := by
  intro pins s σ H x v Q I rx h
  refine tru_ok pins s σ H x v Q I rx ?_
  unfold rTruA at h
  split at h
  · exact ⟨false, rfl, h⟩
  · exact ⟨_, rfl, h⟩
  · exact ⟨_, rfl, h⟩
  · obtain ⟨xs, h1, q⟩ := h
    obtain ⟨b, h1⟩ := sq_lk h1
    refine ⟨_, ?_, q⟩
    rcases lk_seq (K := X.K) h1 with ⟨_, hl⟩ | ⟨_, ht⟩
    · exact .inl ⟨xs, hl, rfl⟩
    · exact .inr (.inl ⟨xs, ht, rfl⟩)
  · exact h.elim
theorem pt_A {X : Cx} {a : PySem.Expr} {ta : TE} (ha : PE X a ta) (he : ∀ whole, isTrue a X.env whole = (do let v ← whole; standAt a.pos; holding [v] (truthy v)) := by intro _; rfl) :
    PT X a (fun σ H Q => ta σ H fun x H' => rTruA x H' Q) := by
  refine ⟨fun pins s σ H Q I h => ?_⟩
  exact isTrue_plain (thn (ha.run pins s σ H _ I h) fun v s1 ⟨x, H1, I1, r1, q1⟩ => tru_A pins s1 σ H1 x v Q I1 r1 q1) (he _)
/-- o[i] = v in a tracked list -/
def rSetA : TSet := fun o i v H Q => ∃ p k xs j, o = .ref p ∧ i = .int k ∧ H p = some (.lst xs) ∧ ixN xs.length k = some j ∧ Q (upd H p (.lst (xs.set j v)))
theorem set_A {X : Cx} : PSet X rSetA := by
  intro pins s σ H o i v ov iv u Q I ro ri rv h
  obtain ⟨p, k, xs, j, e1, e2, e3, e4, q⟩ := h
  exact set_list pins s σ H o i v ov iv u Q I ro ri rv ⟨p, xs, k, j, e1, e2, e3, e4, q⟩
end HbE
end
section
set_option Elab.async false
set_option linter.all false
set_option maxRecDepth 100000
set_option maxHeartbeats 400000
namespace HbX
open PySem PySem.Spec PyProof.Rows L2 HbE Evl
def ExB (K : PySem.W.Frag) (D : Addr) : Bool :=
  decide (PySem.W.findIn K (.ref D) "__getattribute__" = some (some (.builtin "BaseException.__getattribute__"))) && decide (PySem.W.findIn K (.ref D) "__getattr__" = some none) &&
  decide (PySem.W.subIn K (.ref D) (.type "BaseException") = some true) && PySem.W.hasDictIn K D && decide (PySem.W.findIn K (.ref D) "__class__" = some (some (.builtin "object.__class__"))) &&
  decide (PySem.W.specialIn K (.builtin "object.__class__") "__get__" = some (some (.builtin "getset_descriptor.__get__"))) && decide (PySem.W.takesIn K (.builtin "object.__class__") = some true) &&
  decide (PySem.W.mroIn K D (.type "object") = some true)
theorem ExB.ok {K : PySem.W.Frag} {D : Addr} (h : ExB K D = true) : ExcC K D := by
  simp only [ExB, Bool.and_eq_true, decide_eq_true_eq] at h
  obtain ⟨⟨⟨⟨⟨⟨⟨h1, h2⟩, h3⟩, h4⟩, h5⟩, h6⟩, h7⟩, h8⟩ := h
  exact ⟨h1, h2, h3, h4, h5, h6, h7, h8⟩
/-- the classes tell one another apart, and stand below cH and ValueError -/
def kitAll (K : PySem.W.Frag) (cs : List Addr) (cH : Addr) : Bool :=
  ExB K cH && (List.range 18).all fun i => ExB K (cs.getD i 0) && decide (PySem.W.kitOne K (.ref (cs.getD i 0)) (.ref cH) = some true) && decide (PySem.W.kitOne K (.ref (cs.getD i 0)) (.type "ValueError") = some true) &&
    decide (PySem.W.kitOne K (.ref cH) (.ref (cs.getD i 0)) = some false) && (List.range 18).all fun j => decide (PySem.W.kitOne K (.ref (cs.getD i 0)) (.ref (cs.getD j 0)) = some (decide (i = j)))
structure Kit (K : PySem.W.Frag) (c : Nat → Addr) (cH : Addr) : Prop where
  exH : ExcC K cH
  ex : ∀ i, i < 18 → ExcC K (c i)
  up : ∀ i, i < 18 → PySem.W.kitOne K (.ref (c i)) (.ref cH) = some true
  ve : ∀ i, i < 18 → PySem.W.kitOne K (.ref (c i)) (.type "ValueError") = some true
  hh : ∀ i, i < 18 → PySem.W.kitOne K (.ref cH) (.ref (c i)) = some false
  ij : ∀ i j, i < 18 → j < 18 → PySem.W.kitOne K (.ref (c i)) (.ref (c j)) = some (decide (i = j))
theorem kit_ok {K : PySem.W.Frag} {cs : List Addr} {cH : Addr} (h : kitAll K cs cH = true) : Kit K (fun i => cs.getD i 0) cH := by
  unfold kitAll at h
  obtain ⟨h0, h⟩ := Bool.and_eq_true_iff.mp h
  have h' : ∀ i, i < 18 → _ := fun i hi => List.all_eq_true.mp h i (List.mem_range.mpr hi)
  simp only [Bool.and_eq_true, decide_eq_true_eq] at h'
  exact ⟨ExB.ok h0, fun i hi => ExB.ok (h' i hi).1.1.1.1, fun i hi => (h' i hi).1.1.1.2, fun i hi => (h' i hi).1.1.2, fun i hi => (h' i hi).1.2, fun i j hi hj => by
    have := List.all_eq_true.mp (h' i hi).2 j (List.mem_range.mpr hj)
    simpa using this⟩
theorem relRef {C : Addr} : ∀ u, RelV (.ref C) u → u = .ref C := fun _ z => z
theorem relTy {n : String} : ∀ u, RelV (.ty n) u → u = .type n := fun _ z => z
theorem isEx_mono {H H' : Hp} {a D : Addr} (e : Ex H H') (h : IsEx H a D) : IsEx H' a D := by
  rcases h with h | ⟨d, fs, h1, h2⟩
  · exact .inl (e _ _ h)
  · exact .inr ⟨d, fs, e _ _ h1, e _ _ h2⟩
section
variable {K : PySem.W.Frag} {σ : L2.St} {H : Hp} {ta tb te : TE}
theorem ev_isX {a D : Addr} {c : V} {cv : Value} {b : Bool} (ha : Ev ta σ H (.ref a)) (hb : Ev tb σ H c) (hx : IsEx H a D) (hC : ExcC K D) (hr : ∀ u, RelV c u → u = cv) (hk : PySem.W.kitOne K (.ref D) cv = some b) :
    Ev (tCB (rIsX K) (tCons ta (tCons tb tNil))) σ H (.bl b) := fun H1 e Q q =>
  ha H1 e _ fun H2 e2 => hb H2 (e.trans e2) _ fun H3 e3 => ⟨a, D, c, cv, b, rfl, isEx_mono ((e.trans e2).trans e3) hx, hC, hr, hk, q H3 (e2.trans e3)⟩
theorem el_add {l : Addr} {xs zs : List V} (ha : Ev ta σ H (.ref l)) (hl : H l = some (.lst xs)) (hb : EvL tb σ H zs) (hz : xs.length + zs.length ≤ 100000) : EvL (tOp rAddA ta tb) σ H (xs ++ zs) := fun H1 e Q q =>
  ha H1 e _ fun H2 e2 => hb H2 (e.trans e2) _ fun p H3 _ e3 h3 => ⟨xs, zs, ((e.trans e2).trans e3) l _ hl, h3, sz_of hz, fun r hr => q r _ (fresh_back (e2.trans e3) hr) ((e2.trans e3).trans (Ex.new hr)) upd_same⟩
/-- a value of which something is known that lasts -/
def EvX (te : TE) (σ : L2.St) (H : Hp) (P : V → Hp → Prop) : Prop := ∀ H1, Ex H H1 → ∀ Q : VK, (∀ v H2, Ex H1 H2 → P v H2 → Q v H2) → te σ H1 Q
def EvAX (ta : TA) (σ : L2.St) (H : Hp) (P : List V → Hp → Prop) : Prop := ∀ H1, Ex H H1 → ∀ Q : List V → Hp → Prop, (∀ vs H2, Ex H1 H2 → P vs H2 → Q vs H2) → ta σ H1 Q
def EvLX (te : TE) (σ : L2.St) (H : Hp) (P : List V → Hp → Prop) : Prop := ∀ H1, Ex H H1 → ∀ Q : VK, (∀ p vs H2, H1 p = none → Ex H1 H2 → H2 p = some (.lst vs) → P vs H2 → Q (.ref p) H2) → te σ H1 Q
/-- exceptions of these classes -/
def Exs (Ds : List Addr) (vs : List V) (H : Hp) : Prop := Paired (fun v D => ∃ a, v = V.ref a ∧ IsEx H a D) vs Ds
theorem exs_mono {Ds : List Addr} {vs : List V} {H H' : Hp} (e : Ex H H') (h : Exs Ds vs H) : Exs Ds vs H' := by
  unfold Exs at h ⊢
  induction h with
  | nil => exact .nil
  | cons h _ ih => obtain ⟨a, rfl, h⟩ := h; exact .cons ⟨a, rfl, isEx_mono e h⟩ ih
theorem exs_app {Ds Es : List Addr} {vs ws : List V} {H : Hp} (h : Exs Ds vs H) (k : Exs Es ws H) : Exs (Ds ++ Es) (vs ++ ws) H := by
  unfold Exs at h k ⊢
  induction h with
  | nil => exact k
  | cons h _ ih => exact .cons h ih
theorem exs_len {Ds : List Addr} {vs : List V} {H : Hp} (h : Exs Ds vs H) : vs.length = Ds.length := Paired.length h
theorem ex_nil : EvAX tNil σ H (Exs []) := fun H1 _ Q q => q _ _ (Ex.refl _) .nil
theorem ex_cons {tr : TA} {D : Addr} {Ds : List Addr} (h : EvX te σ H (fun v H' => ∃ a, v = V.ref a ∧ IsEx H' a D)) (hr : EvAX tr σ H (Exs Ds)) : EvAX (tCons te tr) σ H (Exs (D :: Ds)) := fun H1 e Q q =>
  h H1 e _ fun v H2 e2 h2 => hr H2 (e.trans e2) _ fun vs H3 e3 h3 => q _ _ (e2.trans e3) (by obtain ⟨a, rfl, h2⟩ := h2; exact .cons ⟨a, rfl, isEx_mono e3 h2⟩ h3)
theorem ex_lst {ta : TA} {Ds : List Addr} (h : EvAX ta σ H (Exs Ds)) (hl : Ds.length ≤ 1000) : EvLX (tLst ta) σ H (Exs Ds) := fun H1 e Q q =>
  h H1 e _ fun vs H2 e2 h2 => ⟨sz_of (by rw [exs_len h2]; omega), fun p hp => q p vs _ (fresh_back e2 hp) (e2.trans (Ex.new hp)) upd_same (exs_mono (Ex.new hp) h2)⟩
theorem ex_add {l : Addr} {xs : List V} {Ds Es : List Addr} (ha : Ev ta σ H (.ref l)) (hl : H l = some (.lst xs)) (hx : Exs Ds xs H) (hb : EvLX tb σ H (Exs Es)) (hz : Ds.length + Es.length ≤ 1000) : EvLX (tOp rAddA ta tb) σ H (Exs (Ds ++ Es)) := fun H1 e Q q =>
  ha H1 e _ fun H2 e2 => hb H2 (e.trans e2) _ fun p zs H3 _ e3 h3 hz3 => ⟨xs, zs, ((e.trans e2).trans e3) l _ hl, h3, sz_of (by rw [exs_len hx, exs_len hz3]; omega), fun r hr => q r _ _ (fresh_back (e2.trans e3) hr) ((e2.trans e3).trans (Ex.new hr)) upd_same
    (exs_app (exs_mono (((e.trans e2).trans e3).trans (Ex.new hr)) hx) (exs_mono (Ex.new hr) hz3))⟩
/-- an own exception class called with one argument -/
theorem ex_one {C : Addr} {v : V} (ha : Ev ta σ H v) : EvX (fun σ H Q => ta σ H fun _ H1 => ∀ a, H1 a = none → Q (.ref a) (upd H1 a (ExO (.ref C) a))) σ H (fun v H' => ∃ a, v = V.ref a ∧ IsEx H' a C) := fun H1 e Q q =>
  ha H1 e _ fun H2 e2 a hn => q _ _ (e2.trans (Ex.new hn)) ⟨a, rfl, .inl upd_same⟩
/-- what an exception's __init__(self, x) that keeps x as f promises -/
def spInit (K : PySem.W.Frag) (C : Addr) (f : Str) : Sp := fun vs H Q _ => ∃ (a : Addr) (v : V), vs = [.ref a, v] ∧ H a = some (exo a C none) ∧
  ∀ d, H d = none → Q .non (upd (upd H d (exd d [(f, v)])) a (exo a C (some d)))
theorem made {C : Addr} {f : Str} {v : V} {D : List V} (ha : Ev ta σ H v) : EvX (tMkV C (spInit K C f) [] (tCons ta tNil)) σ H (fun x H' => ∃ a d, x = V.ref a ∧ H' a = some (exo a C (some d)) ∧ H' d = some (exd d [(f, v)])) := fun H1 e Q q =>
  ha H1 e _ fun H2 e2 => ⟨by simp, fun a hn => ⟨a, v, rfl, upd_same, fun d hd => by
    have nda : d ≠ a := fun z => by rw [z, upd_same] at hd; cases hd
    have hd2 : H2 d = none := by rw [upd_ne nda] at hd; exact hd
    have E1 : Ex H2 (upd (upd (upd H2 a (exo a C none)) d (exd d [(f, v)])) a (exo a C (some d))) := fun b o hb => by
      rw [upd_ne (ne_of_none hb hn), upd_ne (ne_of_none hb hd2), upd_ne (ne_of_none hb hn)]
      exact hb
    refine ⟨rfl, by rw [upd_same]; simp, q _ _ (e2.trans E1) ⟨a, d, rfl, upd_same, ?_⟩⟩
    rw [upd_ne nda, upd_same]⟩⟩
theorem ex_made {C : Addr} {f : Str} {v : V} (ha : Ev ta σ H v) : EvX (tMkV C (spInit K C f) [] (tCons ta tNil)) σ H (fun x H' => ∃ a, x = V.ref a ∧ IsEx H' a C) := fun H1 e Q q =>
  made (D := []) ha H1 e Q fun x H2 e2 ⟨a, d, ex, h1, h2⟩ => q x H2 e2 ⟨a, ex, .inr ⟨d, _, h1, h2⟩⟩
theorem ev_field {C : Addr} {f : Str} {v : V} (ha : EvX te σ H (fun x H' => ∃ a d, x = V.ref a ∧ H' a = some (exo a C (some d)) ∧ H' d = some (exd d [(f, v)]))) (T : XfC K C) (hno : PySem.W.findIn K (.ref C) f = some none) :
    Ev (tXv K f te) σ H v := fun H1 e Q q =>
  ha H1 e _ fun x H2 e2 ⟨a, d, ex, h1, h2⟩ => ⟨a, C, d, _, v, ex, T, hno, h1, h2, by simp [List.lookup], q H2 e2⟩
variable {D : Ends}
theorem s_asgLX {i : Nat} {P : List V → Hp → Prop} (h : EvLX te σ H P) (k : ∀ p vs H1, H p = none → Ex H H1 → H1 p = some (.lst vs) → P vs H1 → D.nx (σ.set i (some (.ref p))) H1) : tAsg te (gName i) D σ H := h H (Ex.refl H) _ fun p vs H1 hp e h1 h2 => k p vs H1 hp e h1 h2
theorem s_retLX {P : List V → Hp → Prop} (h : EvLX te σ H P) (k : ∀ p vs H1, H p = none → Ex H H1 → H1 p = some (.lst vs) → P vs H1 → D.rt (.ref p) H1) : tRet te D σ H := h H (Ex.refl H) _ fun p vs H1 hp e h1 h2 => k p vs H1 hp e h1 h2
end
theorem for_enum {K : PySem.W.Frag} {a : Addr} {xs : List V} {g : TG} {tb : TS} {D : Ends} {σ : L2.St} {H : Hp} (Pv : Nat → L2.St → Hp → Prop) (h0 : Pv 0 σ H) (hl : ∀ i σ H, i ≤ xs.length → Pv i σ H → SqL K H a xs)
    (hs : ∀ i x σ H T, xs[i]? = some x → Pv i σ H → H T = none → g (.ref T) σ (upd H T (.tup [.int (i : Nat), x])) fun σ2 H2 => tb { D with nx := Pv (i + 1), ct := Pv (i + 1), bk := D.nx } σ2 H2) (hd : ∀ σ H, Pv xs.length σ H → D.nx σ H) :
    ∃ W : Nat → Nat → L2.St → Hp → Prop, (∃ m, W 0 m σ H) ∧ ∀ i m σ H, W i m σ H →
      ((Ite K a).stop i H ∧ D.nx σ H) ∨ ((Ite K a).go i H ∧ ∃ N : L2.St → Hp → Prop, (∀ σ' H', N σ' H' → ∃ m', m' < m ∧ W (i + 1) m' σ' H') ∧ ∀ x H', (Ite K a).yld i H x H' → g x σ H' fun σ2 H2 => tb { D with nx := N, ct := N, bk := D.nx } σ2 H2) := by
  refine ⟨fun i m σ H => i + m = xs.length ∧ Pv i σ H, ⟨xs.length, by omega, h0⟩, fun i m σ H ⟨em, p⟩ => ?_⟩
  have hS := hl i σ H (by omega) p
  by_cases hi : i < xs.length
  · refine .inr ⟨⟨xs, xs[i], hS, List.getElem?_eq_getElem hi⟩, Pv (i + 1), fun σ' H' q => ⟨m - 1, by omega, by omega, q⟩, fun x H' y => ?_⟩
    obtain ⟨T, z, rfl, nT, rfl, f⟩ := y
    exact hs i z σ H T (f xs hS) p nT
  · have e : i = xs.length := by omega
    subst e
    exact .inl ⟨⟨xs, hS, Nat.le_refl _⟩, hd σ H p⟩
/-- a target of two names at slots i, j -/
theorem g_two {K : PySem.W.Frag} {i j : Nat} {σ : L2.St} {H : Hp} {T : Addr} {x y : V} {Q : L2.St → Hp → Prop} (hT : H T = some (.tup [x, y])) (q : Q ((σ.set i (some x)).set j (some y)) H) :
    gTup K 2 (gCons (gName i) (gCons (gName j) gNil)) (.ref T) σ H Q := ⟨T, [x, y], rfl, .inl (.inl hT), rfl, x, [y], rfl, y, [], rfl, rfl, q⟩
theorem lk_mono {H H' : Hp} {a : Addr} {r : Bool × List V} (e : Ex H H') (h : lk H a = some r) : lk H' a = some r := by
  have : ∃ o, H a = some o := by
    cases q : H a with
    | some o => exact ⟨o, rfl⟩
    | none => unfold lk at h; rw [q] at h; cases h
  obtain ⟨o, q⟩ := this
  unfold lk at h ⊢
  rw [e a o q]
  rw [q] at h
  exact h
theorem allO_mono {f g : V → Option PyData} (hf : ∀ v d, f v = some d → g v = some d) : ∀ (xs : List V) (ds : List PyData), allO f xs = some ds → allO g xs = some ds := by
  intro xs
  induction xs with
  | nil => intro ds h; exact h
  | cons x xs ih =>
    intro ds h
    unfold allO at h ⊢
    split at h
    · rename_i y ys h1 h2
      rw [hf x y h1, ih ys h2]
      exact h
    · cases h
theorem datN_mono {H H' : Hp} (e : Ex H H') : ∀ (n : Nat) (v : V) (d : PyData), datN n H v = some d → datN n H' v = some d := by
  intro n
  induction n with
  | zero => intro v d h; cases v <;> exact h
  | succ n ih =>
    intro v d h
    cases v with
    | ref a =>
      simp only [datN] at h ⊢
      split at h
      · rename_i xs q
        rw [lk_mono e q]
        obtain ⟨ds, h1, h2⟩ := Option.map_eq_some_iff.mp h
        exact Option.map_eq_some_iff.mpr ⟨ds, allO_mono ih xs ds h1, h2⟩
      · rename_i xs q
        rw [lk_mono e q]
        obtain ⟨ds, h1, h2⟩ := Option.map_eq_some_iff.mp h
        exact Option.map_eq_some_iff.mpr ⟨ds, allO_mono ih xs ds h1, h2⟩
      · cases h
    | _ => exact h
theorem eq_same {neg : Bool} {H : Hp} {p q : Addr} {d : PyData} (hp : datN 8 H (.ref p) = some d) (hq : datN 8 H (.ref q) = some d) (hs : SeqAt.shaped d = true) : RV (rEqA neg) (.ref p) (.ref q) H (.bl (neg ^^ true)) := fun H1 e Q k => by
  unfold rEqA
  rw [if_neg (by simp [scal])]
  refine ⟨d, d, datN_mono e _ _ _ hp, datN_mono e _ _ _ hq, hs, hs, ?_⟩
  rw [SeqAt.eqv_refl d (SeqAt.canLay_of_shaped hs)]
  exact k H1 (Ex.refl _)
theorem datN_bools {H : Hp} {p : Addr} {bs : List Bool} {n : Nat} (h : H p = some (.lst (bs.map V.bl))) : datN (n + 1) H (.ref p) = some (.list (bs.map PyData.bool)) := by
  simp only [datN, lk_lst h]
  have : ∀ l : List Bool, allO (datN n H) (l.map V.bl) = some (l.map PyData.bool) := by
    intro l
    induction l with
    | nil => rfl
    | cons b l ih =>
      have hb : datN n H (.bl b) = some (.bool b) := by cases n <;> rfl
      simp only [List.map_cons, allO, hb, ih]
  rw [this]
  rfl
end HbX
end
section
set_option Elab.async false
set_option linter.all false
set_option maxRecDepth 100000
set_option maxHeartbeats 400000
namespace HbA
open PySem PySem.Spec PyProof.Rows L2 HbE
/-- a drawer: three ints in a list -/
def Hat (o : HO) : Prop := ∃ g s c : Int, o = .lst [.int g, .int s, .int c]
/-- a new drawer for the script's place -/
def spHat (K : PySem.W.Frag) : Sp := fun vs H Q _ => ∃ (a : Addr) (ns : List Int) (i : Nat), vs = [.ref a, .int i] ∧ SqL K H a (ns.map V.int) ∧ i ≤ 3 ∧
  ∀ p o, H p = none → Hat o → Q (.ref p) (upd H p o)
/-- a number below the total, out of the drawer -/
def spUp : Sp := fun vs H Q _ => ∃ (a : Addr) (o : HO) (t : Int), vs = [.ref a, .int t] ∧ H a = some o ∧ Hat o ∧ 0 < t ∧ t < 1073741824 ∧
  ∀ (r : Int) o', 0 ≤ r → r < t → Hat o' → Q (.int r) (upd H a o')
/-- an item, out of the drawer -/
def spOf : Sp := fun vs H Q _ => ∃ (a l : Addr) (o : HO) (xs : List V), vs = [.ref a, .ref l] ∧ H a = some o ∧ Hat o ∧ H l = some (.lst xs) ∧ a ≠ l ∧ 0 < xs.length ∧ xs.length < 1000 ∧
  ∀ v o', v ∈ xs → Hat o' → Q v (upd H a o')
theorem atI_mem {xs : List V} {i : Int} (h0 : 0 ≤ i) (h1 : i < xs.length) : ∃ v, atI xs i = some v ∧ v ∈ xs := by
  obtain ⟨n, rfl⟩ := Int.eq_ofNat_of_zero_le h0
  have hn : n < xs.length := by omega
  exact ⟨xs[n], atI_nat (List.getElem?_eq_getElem hn), List.getElem_mem hn⟩
theorem b_int : bootBuiltins "int" = some (.type "int") := by decide +kernel
theorem b_abs : bootBuiltins "abs" = some (.builtin "abs") := by decide +kernel
theorem b_max : bootBuiltins "max" = some (.builtin "max") := by decide +kernel
theorem b_min : bootBuiltins "min" = some (.builtin "min") := by decide +kernel
theorem small_mul {a b : Int} (h : b.natAbs < 2 ^ 64) : CMul a b := .inr ⟨by omega, by omega⟩
theorem small_mul' {a b : Int} (h : a.natAbs < 2 ^ 64) : CMul a b := .inl ⟨by omega, by omega⟩
theorem cp1 : CPowB 10 55 := ⟨by decide, by decide +kernel⟩
theorem cp2 : CPowB 10000000000000000000000000000000000000000000000000000000 7 := ⟨by decide, by decide +kernel⟩
theorem cp3 : CPowB 10 16 := ⟨by decide, by decide +kernel⟩
theorem three : 3 ≤ sizeLine := by decide
theorem nd_of {N ps : List Str} {sc : Scope} (S : FnScope N ps sc) : N.Nodup := S.nd
end HbA
open PySem PySem.Spec PyProof.Rows L2 HbE HbA
-- expressions
local macro_rules | `(tactic| lcg_sub) => `(tactic| first
  | ((with_reducible show PE _ (.Constant _ _ _) _); first | exact pe_int | exact pe_str | exact pe_non | exact pe_bl)
  | ((with_reducible show PE _ (.Name _ _) _); first | exact pv 0 | exact pv 1 | exact pv 2 | exact pv 3 | exact pv 4 | exact pv 5 | exact pv 6 | exact pv 7 | exact pv 8)
  | ((with_reducible show PE _ (.BinOp _ .Add _ _) _); first | exact pe_op op_addA (by lcg_sub) (by lcg_sub))
  | ((with_reducible show PE _ (.BinOp _ .Sub _ _) _); first | exact pe_op op_sub (by lcg_sub) (by lcg_sub))
  | ((with_reducible show PE _ (.BinOp _ .Mult _ _) _); first | exact pe_op op_mul (by lcg_sub) (by lcg_sub))
  | ((with_reducible show PE _ (.BinOp _ .Mod _ _) _); first | exact pe_op op_mod (by lcg_sub) (by lcg_sub))
  | ((with_reducible show PE _ (.BinOp _ .FloorDiv _ _) _); first | exact pe_op op_fdiv (by lcg_sub) (by lcg_sub))
  | ((with_reducible show PE _ (.BinOp _ .Pow _ _) _); first | exact pe_op op_powB (by lcg_sub) (by lcg_sub))
  | ((with_reducible show PE _ (.Subscript _ _ _) _); first | exact pe_ix ix_any (by lcg_sub) (by lcg_sub) (fun _ _ => rfl))
  | ((with_reducible show PE _ (.UnaryOp .USub _ _) _); first | exact pe_un un_neg (by lcg_sub))
  | ((with_reducible show PE _ (.List _ _) _); first | exact pe_lst (by keq_rows))
  | ((with_reducible show PE _ (.Tuple _ _ _) _); first | exact pe_tup (by keq_rows))
  | ((with_reducible show PE _ (.Dict _ _ _) _); first | exact pe_dnewK)
  | ((with_reducible show PE _ (.IfExp _ _ _ _) _); first | exact pe_ifExp (by lcg_off) (by lcg_sub) (by lcg_sub))
  | ((with_reducible show PE _ (.Compare _ [.Lt] _ _) _); first | exact pe_cmpR op_lt (by lcg_sub) (by lcg_sub) (nomark _))
  | ((with_reducible show PE _ (.Call (.Name "len" _) _ _ _) _); first | exact pe_callB call_lenA (by rfl) (by assumption) PySem.boot_len (by keq_rows))
  | ((with_reducible show PE _ (.Call (.Name "int" _) _ _ _) _); first | exact pe_callTy call_intA (by rfl) (by assumption) HbA.b_int (by keq_rows))
  | ((with_reducible show PE _ (.Call (.Name "abs" _) _ _ _) _); first | exact pe_callB call_abs (by rfl) (by assumption) HbA.b_abs (by keq_rows))
  | ((with_reducible show PE _ (.Call (.Name "max" _) _ _ _) _); first | exact pe_callB (call_max2 rfl) (by rfl) (by assumption) HbA.b_max (by keq_rows))
  | ((with_reducible show PE _ (.Call (.Name "min" _) _ _ _) _); first | exact pe_callB (call_min2 rfl) (by rfl) (by assumption) HbA.b_min (by keq_rows)))
local macro_rules | `(tactic| keq_rows) => `(tactic| first | ((with_reducible show PA _ [] _); exact pa_nil) | ((with_reducible show PA _ (_ :: _) _); exact pa_cons (by lcg_sub) (by keq_rows)))
local macro_rules | `(tactic| lcg_off) => `(tactic| first
  | ((with_reducible show PT _ (.Compare _ [.Gt] _ _) _); exact pt_cmpR op_gt (by lcg_sub) (by lcg_sub) (nomark _))
  | ((with_reducible show PT _ (.Compare _ [.Lt] _ _) _); exact pt_cmpR op_lt (by lcg_sub) (by lcg_sub) (nomark _)))
local macro_rules | `(tactic| keq_hits) => `(tactic| first
  | ((with_reducible show PS _ (.Return (some _) _) _); exact ps_ret (by lcg_sub))
  | ((with_reducible show PS _ (.If _ _ _ _) _); exact ps_if (by lcg_off) (by lcg_src) (by lcg_src))
  | ((with_reducible show PS _ (.Assign [.Name _ _] _ _) _); first
    | exact ps_set (i := 2) (by assumption) rfl (.inl rfl) (by lcg_sub)
    | exact ps_set (i := 3) (by assumption) rfl (.inl rfl) (by lcg_sub)
    | exact ps_set (i := 4) (by assumption) rfl (.inl rfl) (by lcg_sub)
    | exact ps_set (i := 5) (by assumption) rfl (.inl rfl) (by lcg_sub))
  | ((with_reducible show PS _ (.Assign [.Subscript _ _ _] _ _) _); exact ps_asg (by lcg_sub) (pg_sub (by lcg_sub) (by lcg_sub) set_A)))
local macro_rules | `(tactic| lcg_src) => `(tactic| first
  | ((with_reducible show PSs _ [] _); exact pss_nil)
  | ((with_reducible show PSs _ [_] _); exact pss_one (by keq_hits))
  | ((with_reducible show PSs _ (_ :: _) _); exact pss_cons (by keq_hits) (by lcg_src)))
namespace K00
def topS (i : Nat) : Stmt := PySem.Challenge.pw_hardbits_k00_errors_stand_apart.main.body.getD i (.Pass ⟨0, 0, 0, 0⟩)
abbrev sHat : Stmt := topS 21
abbrev sUp : Stmt := topS 22
abbrev sOf : Stmt := topS 23
theorem scHat : FnScope ["script", "spot", "cell", "great", "seed"] ["script", "spot"] (defScope sHat) := ⟨rfl, rfl, rfl, by decide +kernel, rfl, by decide +kernel, by decide +kernel⟩
theorem scUp : FnScope ["hat", "total", "found", "one", "two"] ["hat", "total"] (defScope sUp) := ⟨rfl, rfl, rfl, by decide +kernel, rfl, by decide +kernel, by decide +kernel⟩
theorem scOf : FnScope ["hat", "items"] ["hat", "items"] (defScope sOf) := ⟨rfl, rfl, rfl, by decide +kernel, rfl, by decide +kernel, by decide +kernel⟩
section
variable {P : Program} {w : World} {K : PySem.W.Frag} {mg : Str → Option Value} {base : Heap}
theorem ok_up {f : Addr} {fd : FuncData} {k : Nat} (F : Fun K "_law_fr_up" "_law_fr_up" sUp f fd) (bi : mg "int" = none) : FnOk P w K mg base CX0 (k + 1) f fd ["hat", "total"] spUp := by
  refine F.ok scUp (fun vs H Q E h => ?_) (fun cdv A outer s H vs Q E hr h => ?_)
  · obtain ⟨a, o, t, rfl, _⟩ := h
    rfl
  · obtain ⟨a, o, t, rfl, ha, ⟨g, s0, c, rfl⟩, h0, h1, q⟩ := h
    have nd := scUp.nd
    refine ⟨_, pss_cons (by keq_hits) (by lcg_src), ?_⟩
    have l0 : sq H a = some [.int g, .int s0, .int c] := sq_lst ha
    simp [tSeq, tIfS, tTest, tOp, tUn, rU, tVar, tC, tCB, tCons, tNil, rI0, rI, tAsg, gName, gSub, tRet, L2.start, tNext, tLst, tTup, tIf, rIxA, rAddA, rIntA, rSetA, rLenA, sq_updL, sq_updT, upd_same, upd_upd, atI, ixN, l0, ha]
    split
    · exact ⟨h0, ⟨h0, h1⟩, q _ _ (Int.emod_nonneg _ (by omega)) (Int.emod_lt_of_pos _ h0) ⟨_, _, _, rfl⟩⟩
    · have lt := fun x : Int => Int.emod_lt_of_pos x (show (0 : Int) < 2305843009213693951 by decide)
      have nn := fun x : Int => Int.emod_nonneg x (show (2305843009213693951 : Int) ≠ 0 by decide)
      refine ⟨small_mul' (by decide), small_mul ?_, small_mul (by decide), small_mul' (by decide), ⟨by decide, by decide⟩, h0, q _ _ (Int.emod_nonneg _ (by omega)) (Int.emod_lt_of_pos _ h0) ⟨_, _, _, rfl⟩⟩
      have := lt (s0 + 32452843 * (c + 1))
      have := nn (s0 + 32452843 * (c + 1))
      omega
theorem ok_of {f fU : Addr} {fd fdU : FuncData} {k : Nat} (F : Fun K "_law_fr_of" "_law_fr_of" sOf f fd) (bl : mg "len" = none) (G : FnOk P w K mg base CX0 (k + 1) fU fdU ["hat", "total"] spUp) (gU : mg "_law_fr_up" = some (.ref fU)) (kU : PySem.W.keepIn K (.ref fU) = true) (bU : Binds K fdU ["hat", "total"] []) : FnOk P w K mg base CX0 (k + 2) f fd ["hat", "items"] spOf := by
  refine F.ok scOf (fun vs H Q E h => ?_) (fun cdv A outer s H vs Q E hr h => ?_)
  · obtain ⟨a, l, o, xs, rfl, _⟩ := h
    rfl
  · obtain ⟨a, l, o, xs, rfl, ha, ho, hl, ne, h0, h1, q⟩ := h
    refine ⟨_, pss_one (ps_ret (pe_ix ix_any (by lcg_sub) (pe_call G hr (by rfl) gU kU bU .nil pass0 (by keq_rows)) (fun _ _ => rfl))), ?_⟩
    have l0 : sq H l = some xs := sq_lst hl
    simp [tSeq, tIfS, tTest, tOp, tUn, rU, tVar, tC, tCB, tCons, tNil, rI0, rI, tAsg, gName, gSub, tRet, L2.start, tNext, tLst, tTup, tIf, rIxA, rAddA, rIntA, rSetA, rLenA, sq_updL, sq_updT, upd_same, upd_upd, atI, ixN, tCall, l0]
    refine ⟨a, o, xs.length, rfl, ha, ho, by omega, by omega, fun r o' r0 r1 ho' => ?_⟩
    obtain ⟨v, e, m⟩ := atI_mem (xs := xs) r0 r1
    simp [rIxA]
    exact ⟨xs, by rw [sq_ne (Ne.symm ne)]; exact l0, v, e, q v o' m ho'⟩
local macro_rules | `(tactic| lcg_sub) => `(tactic| first
  | ((with_reducible show PE _ (.Subscript (.Name "script" _) _ _) _); exact pe_ix ix_list (by lcg_sub) (by lcg_sub) (fun _ _ => rfl))
  | ((with_reducible show PE _ (.Call (.Name "len" _) _ _ _) _); exact pe_callB call_len_seq (by rfl) (by assumption) PySem.boot_len (by keq_rows)))
theorem ok_hat {f : Addr} {fd : FuncData} {k : Nat} (F : Fun K "_law_fr_hat" "_law_fr_hat" sHat f fd) (bi : mg "int" = none) (bl : mg "len" = none) (ba : mg "abs" = none) (bm : mg "max" = none) : FnOk P w K mg base CX0 (k + 1) f fd ["script", "spot"] (spHat K) := by
  refine F.ok scHat (fun vs H Q E h => ?_) (fun cdv A outer s H vs Q E hr h => ?_)
  · obtain ⟨a, ns, i, rfl, _⟩ := h
    rfl
  · obtain ⟨a, ns, i, rfl, ha, hi, q⟩ := h
    have nd := scHat.nd
    refine ⟨_, pss_cons (by keq_hits) (by lcg_src), ?_⟩
    simp [tSeq, tIfS, tTest, tOp, tUn, rU, tVar, tC, tCB, tCons, tNil, rI0, rI, tAsg, gName, gSub, tRet, L2.start, tNext, tLst, tTup, tIf, rIxA, rAddA, rIntA, rSetA, rLenA, sq_updL, sq_updT, upd_same, upd_upd, atI, ixN]
    refine ⟨ns.map V.int, .inl ha, ?_⟩
    simp only [List.length_map]
    split
    · rename_i hlt
      refine ⟨a, ns.map V.int, i, .int ns[i], rfl, rfl, ha, atI_nat (by simp [hlt]), cp1, cp2, small_mul (by decide), small_mul' (by decide), small_mul' (by decide), cp3, _, _, ⟨rfl, rfl⟩, three, fun p hp => q _ _ hp ⟨_, _, _, rfl⟩⟩
    · exact ⟨small_mul' (by decide), cp1, cp2, small_mul (by decide), small_mul' (by decide), small_mul' (by decide), cp3, _, _, ⟨rfl, rfl⟩, three, fun p hp => q _ _ hp ⟨_, _, _, rfl⟩⟩
end
end K00
end
section
set_option Elab.async false
set_option linter.all false
set_option maxRecDepth 100000
set_option maxHeartbeats 1000000
open PySem PySem.Spec PyProof.Rows L2 HbE HbA Evl HbX
-- expressions
local macro_rules | `(tactic| lcg_sub) => `(tactic| first
  | ((with_reducible show PE _ (.Constant _ _ _) _); first | exact pe_int | exact pe_str | exact pe_non | exact pe_bl)
  | ((with_reducible show PE _ (.Name _ _) _); first | exact pv 0 | exact pv 1 | exact pv 2 | exact pv 3 | exact pv 4 | exact pv 5 | exact pv 6 | exact pv 7 | exact pv 8)
  | ((with_reducible show PE _ (.BinOp _ .Add _ _) _); first | exact pe_op op_addA (by lcg_sub) (by lcg_sub))
  | ((with_reducible show PE _ (.BinOp _ .Sub _ _) _); first | exact pe_op op_sub (by lcg_sub) (by lcg_sub))
  | ((with_reducible show PE _ (.BinOp _ .Mult _ _) _); first | exact pe_op op_mul (by lcg_sub) (by lcg_sub))
  | ((with_reducible show PE _ (.BinOp _ .Mod _ _) _); first | exact pe_op op_mod (by lcg_sub) (by lcg_sub))
  | ((with_reducible show PE _ (.BinOp _ .FloorDiv _ _) _); first | exact pe_op op_fdiv (by lcg_sub) (by lcg_sub))
  | ((with_reducible show PE _ (.BinOp _ .Pow _ _) _); first | exact pe_op op_powB (by lcg_sub) (by lcg_sub))
  | ((with_reducible show PE _ (.Subscript _ _ _) _); first | exact pe_ix ix_any (by lcg_sub) (by lcg_sub) (fun _ _ => rfl))
  | ((with_reducible show PE _ (.UnaryOp .USub _ _) _); first | exact pe_un un_neg (by lcg_sub))
  | ((with_reducible show PE _ (.List _ _) _); first | exact pe_lst (by keq_rows))
  | ((with_reducible show PE _ (.Tuple _ _ _) _); first | exact pe_tup (by keq_rows))
  | ((with_reducible show PE _ (.Dict _ _ _) _); first | exact pe_dnewK)
  | ((with_reducible show PE _ (.IfExp _ _ _ _) _); first | exact pe_ifExp (by lcg_off) (by lcg_sub) (by lcg_sub))
  | ((with_reducible show PE _ (.Compare _ [.Lt] _ _) _); first | exact pe_cmpR op_lt (by lcg_sub) (by lcg_sub) (nomark _))
  | ((with_reducible show PE _ (.Call (.Name "len" _) _ _ _) _); first | exact pe_callB call_lenA (by rfl) (by assumption) PySem.boot_len (by keq_rows))
  | ((with_reducible show PE _ (.Call (.Name "int" _) _ _ _) _); first | exact pe_callTy call_intA (by rfl) (by assumption) HbA.b_int (by keq_rows))
  | ((with_reducible show PE _ (.Call (.Name "abs" _) _ _ _) _); first | exact pe_callB call_abs (by rfl) (by assumption) HbA.b_abs (by keq_rows))
  | ((with_reducible show PE _ (.Call (.Name "max" _) _ _ _) _); first | exact pe_callB (call_max2 rfl) (by rfl) (by assumption) HbA.b_max (by keq_rows))
  | ((with_reducible show PE _ (.Call (.Name "min" _) _ _ _) _); first | exact pe_callB (call_min2 rfl) (by rfl) (by assumption) HbA.b_min (by keq_rows)))
local macro_rules | `(tactic| keq_rows) => `(tactic| first | ((with_reducible show PA _ [] _); exact pa_nil) | ((with_reducible show PA _ (_ :: _) _); exact pa_cons (by lcg_sub) (by keq_rows)))
local macro_rules | `(tactic| lcg_off) => `(tactic| first
  | ((with_reducible show PT _ (.Compare _ [.Gt] _ _) _); exact pt_cmpR op_gt (by lcg_sub) (by lcg_sub) (nomark _))
  | ((with_reducible show PT _ (.Compare _ [.Lt] _ _) _); exact pt_cmpR op_lt (by lcg_sub) (by lcg_sub) (nomark _)))
local macro_rules | `(tactic| keq_hits) => `(tactic| first
  | ((with_reducible show PS _ (.Return (some _) _) _); exact ps_ret (by lcg_sub))
  | ((with_reducible show PS _ (.If _ _ _ _) _); exact ps_if (by lcg_off) (by lcg_src) (by lcg_src))
  | ((with_reducible show PS _ (.Assign [.Name _ _] _ _) _); first
    | exact ps_set (i := 2) (by assumption) rfl (.inl rfl) (by lcg_sub)
    | exact ps_set (i := 3) (by assumption) rfl (.inl rfl) (by lcg_sub)
    | exact ps_set (i := 4) (by assumption) rfl (.inl rfl) (by lcg_sub)
    | exact ps_set (i := 5) (by assumption) rfl (.inl rfl) (by lcg_sub))
  | ((with_reducible show PS _ (.Assign [.Subscript _ _ _] _ _) _); exact ps_asg (by lcg_sub) (pg_sub (by lcg_sub) (by lcg_sub) set_A)))
local macro_rules | `(tactic| lcg_src) => `(tactic| first
  | ((with_reducible show PSs _ [] _); exact pss_nil)
  | ((with_reducible show PSs _ [_] _); exact pss_one (by keq_hits))
  | ((with_reducible show PSs _ (_ :: _) _); exact pss_cons (by keq_hits) (by lcg_src)))

namespace K00
abbrev sKinds : Stmt := topS 24
abbrev sErrs : Stmt := topS 25
abbrev sKept : Stmt := topS 26
theorem scKinds : FnScope ["error", "found"] ["error"] (defScope sKinds) := ⟨rfl, rfl, rfl, by decide +kernel, rfl, by decide +kernel, by decide +kernel⟩
theorem scErrs : FnScope ["value", "found"] ["value"] (defScope sErrs) := ⟨rfl, rfl, rfl, by decide +kernel, rfl, by decide +kernel, by decide +kernel⟩
theorem scKept : FnScope ["value", "found"] ["value"] (defScope sKept) := ⟨rfl, rfl, rfl, by decide +kernel, rfl, by decide +kernel, by decide +kernel⟩
abbrev veM : List Value := [.type "ValueError", .type "Exception", .type "BaseException", .type "object"]
/-- what the top has written: the classes -/
structure Txt (K : PySem.W.Frag) (mg : Str → Option Value) (c : Nat → Addr) (cH : Addr) : Prop where
  kit : Kit K c cH
  isi : mg "isinstance" = none
  gH : mg "HardError" = some (.ref cH)
  qH : PySem.W.excIn K cH veM "ValueError.__new__" = true
  kH : PySem.W.keepIn K (.ref cH) = true
  g0 : mg "InvalidFraction" = some (.ref (c 0))
  g1 : mg "InvalidRow" = some (.ref (c 1))
  g2 : mg "InvalidTruth" = some (.ref (c 2))
  g3 : mg "InvalidFamily" = some (.ref (c 3))
  g4 : mg "InvalidMeasure" = some (.ref (c 4))
  g5 : mg "InvalidMix" = some (.ref (c 5))
  g6 : mg "InvalidDraw" = some (.ref (c 6))
  g7 : mg "InvalidWord" = some (.ref (c 7))
  g8 : mg "InvalidDesign" = some (.ref (c 8))
  g9 : mg "InvalidAdvice" = some (.ref (c 9))
  g10 : mg "InvalidMaps" = some (.ref (c 10))
  g11 : mg "InvalidClaim" = some (.ref (c 11))
  g12 : mg "InvalidOperation" = some (.ref (c 12))
  g13 : mg "InvalidNumber" = some (.ref (c 13))
  g14 : mg "UnknownName" = some (.ref (c 14))
  g15 : mg "TooMany" = some (.ref (c 15))
  g16 : mg "Refused" = some (.ref (c 16))
  g17 : mg "ParseError" = some (.ref (c 17))
  q0 : PySem.W.excIn K (c 0) veM "ValueError.__new__" = true
  k0 : PySem.W.keepIn K (.ref (c 0)) = true
  q1 : PySem.W.excIn K (c 1) veM "ValueError.__new__" = true
  k1 : PySem.W.keepIn K (.ref (c 1)) = true
  q2 : PySem.W.excIn K (c 2) veM "ValueError.__new__" = true
  k2 : PySem.W.keepIn K (.ref (c 2)) = true
  q3 : PySem.W.excIn K (c 3) veM "ValueError.__new__" = true
  k3 : PySem.W.keepIn K (.ref (c 3)) = true
  q4 : PySem.W.excIn K (c 4) veM "ValueError.__new__" = true
  k4 : PySem.W.keepIn K (.ref (c 4)) = true
  q5 : PySem.W.excIn K (c 5) veM "ValueError.__new__" = true
  k5 : PySem.W.keepIn K (.ref (c 5)) = true
  q6 : PySem.W.excIn K (c 6) veM "ValueError.__new__" = true
  k6 : PySem.W.keepIn K (.ref (c 6)) = true
  q7 : PySem.W.excIn K (c 7) veM "ValueError.__new__" = true
  k7 : PySem.W.keepIn K (.ref (c 7)) = true
  q8 : PySem.W.excIn K (c 8) veM "ValueError.__new__" = true
  k8 : PySem.W.keepIn K (.ref (c 8)) = true
  q9 : PySem.W.excIn K (c 9) veM "ValueError.__new__" = true
  k9 : PySem.W.keepIn K (.ref (c 9)) = true
  q10 : PySem.W.excIn K (c 10) veM "ValueError.__new__" = true
  k10 : PySem.W.keepIn K (.ref (c 10)) = true
  q11 : PySem.W.excIn K (c 11) veM "ValueError.__new__" = true
  k11 : PySem.W.keepIn K (.ref (c 11)) = true
  q12 : PySem.W.excIn K (c 12) veM "ValueError.__new__" = true
  k12 : PySem.W.keepIn K (.ref (c 12)) = true
  o13 : OexC K (c 13)
  x13 : XfC K (c 13)
  n13 : PySem.W.findIn K (.ref (c 13)) "given" = some none
  o14 : OexC K (c 14)
  x14 : XfC K (c 14)
  n14 : PySem.W.findIn K (.ref (c 14)) "wanted" = some none
  o15 : OexC K (c 15)
  x15 : XfC K (c 15)
  n15 : PySem.W.findIn K (.ref (c 15)) "most" = some none
  o16 : OexC K (c 16)
  x16 : XfC K (c 16)
  n16 : PySem.W.findIn K (.ref (c 16)) "reason" = some none
  o17 : OexC K (c 17)
  x17 : XfC K (c 17)
  n17 : PySem.W.findIn K (.ref (c 17)) "at" = some none
/-- an __init__ of an exception class that keeps its argument -/
structure Ini (P : Program) (w : World) (K : PySem.W.Frag) (mg : Str → Option Value) (base : Heap) (C : Addr) (f : Str) : Prop where
  all : ∃ (fI : Addr) (fd : FuncData), PySem.W.findIn K (.ref C) "__init__" = some (some (.ref fI)) ∧ PySem.W.typeIn K (.ref fI) = some (.type "function") ∧
    FnOk P w K mg base CX0 1 fI fd ["self", f] (spInit K C f) ∧ Binds K fd ["self", f] []
def spKinds (K : PySem.W.Frag) (c : Nat → Addr) : Sp := fun vs H Q _ => ∃ (a D : Addr) (row : Nat → Bool), vs = [.ref a] ∧ IsEx H a D ∧ ExcC K D ∧ (∀ i, i < 18 → PySem.W.kitOne K (.ref D) (.ref (c i)) = some (row i)) ∧
  ∀ p H1, H p = none → Ex H H1 → H1 p = some (.lst ((List.range 18).map fun i => V.bl (row i))) → Q (.ref p) H1
def csAll (c : Nat → Addr) : List Addr := (List.range 18).map c
def spErrs (K : PySem.W.Frag) (c : Nat → Addr) : Sp := fun vs H Q _ => ∃ v, vs = [v] ∧ ∀ p xs H1, H p = none → Ex H H1 → H1 p = some (.lst xs) → Exs (csAll c) xs H1 → Q (.ref p) H1
def spKept : Sp := fun vs H Q _ => ∃ v, vs = [v] ∧ ∀ p H1, H p = none → Ex H H1 → H1 p = some (.lst [v, v, v, v, v]) → Q (.ref p) H1
section
variable {P : Program} {w : World} {K : PySem.W.Frag} {mg : Str → Option Value} {base : Heap} {c : Nat → Addr} {cH : Addr}

theorem ok_kinds {f : Addr} {fd : FuncData} {k : Nat} (F : Fun K "_law_kinds" "_law_kinds" sKinds f fd) (T : Txt K mg c cH) : FnOk P w K mg base CX0 (k + 1) f fd ["error"] (spKinds K c) := by
  refine F.ok scKinds (fun vs H Q E h => ?_) (fun cdv A outer s H vs Q E hr h => ?_)
  · obtain ⟨a, D, row, rfl, _⟩ := h
    rfl
  · obtain ⟨a, D, row, rfl, hx, hC, hk, q⟩ := h
    have nd := scKinds.nd
    refine ⟨_, pss_cons (ps_set (i := 1) nd rfl (.inl rfl) (pe_lst (pa_cons (pe_callB call_isX (by rfl) T.isi PyProof.Rows.boot_isinstance (pa_cons (pv 0) (pa_cons (pe_glob (v := V.ref (c 0)) (by rfl) T.g0 rfl) pa_nil))) (pa_cons (pe_callB call_isX (by rfl) T.isi PyProof.Rows.boot_isinstance (pa_cons (pv 0) (pa_cons (pe_glob (v := V.ref (c 1)) (by rfl) T.g1 rfl) pa_nil))) (pa_cons (pe_callB call_isX (by rfl) T.isi PyProof.Rows.boot_isinstance (pa_cons (pv 0) (pa_cons (pe_glob (v := V.ref (c 2)) (by rfl) T.g2 rfl) pa_nil))) pa_nil))))) (pss_cons (ps_set (i := 1) nd rfl (.inl rfl) (pe_op op_addA (pv 1) (pe_lst (pa_cons (pe_callB call_isX (by rfl) T.isi PyProof.Rows.boot_isinstance (pa_cons (pv 0) (pa_cons (pe_glob (v := V.ref (c 3)) (by rfl) T.g3 rfl) pa_nil))) (pa_cons (pe_callB call_isX (by rfl) T.isi PyProof.Rows.boot_isinstance (pa_cons (pv 0) (pa_cons (pe_glob (v := V.ref (c 4)) (by rfl) T.g4 rfl) pa_nil))) pa_nil))))) (pss_cons (ps_set (i := 1) nd rfl (.inl rfl) (pe_op op_addA (pv 1) (pe_lst (pa_cons (pe_callB call_isX (by rfl) T.isi PyProof.Rows.boot_isinstance (pa_cons (pv 0) (pa_cons (pe_glob (v := V.ref (c 5)) (by rfl) T.g5 rfl) pa_nil))) (pa_cons (pe_callB call_isX (by rfl) T.isi PyProof.Rows.boot_isinstance (pa_cons (pv 0) (pa_cons (pe_glob (v := V.ref (c 6)) (by rfl) T.g6 rfl) pa_nil))) (pa_cons (pe_callB call_isX (by rfl) T.isi PyProof.Rows.boot_isinstance (pa_cons (pv 0) (pa_cons (pe_glob (v := V.ref (c 7)) (by rfl) T.g7 rfl) pa_nil))) pa_nil)))))) (pss_cons (ps_set (i := 1) nd rfl (.inl rfl) (pe_op op_addA (pv 1) (pe_lst (pa_cons (pe_callB call_isX (by rfl) T.isi PyProof.Rows.boot_isinstance (pa_cons (pv 0) (pa_cons (pe_glob (v := V.ref (c 8)) (by rfl) T.g8 rfl) pa_nil))) (pa_cons (pe_callB call_isX (by rfl) T.isi PyProof.Rows.boot_isinstance (pa_cons (pv 0) (pa_cons (pe_glob (v := V.ref (c 9)) (by rfl) T.g9 rfl) pa_nil))) pa_nil))))) (pss_cons (ps_set (i := 1) nd rfl (.inl rfl) (pe_op op_addA (pv 1) (pe_lst (pa_cons (pe_callB call_isX (by rfl) T.isi PyProof.Rows.boot_isinstance (pa_cons (pv 0) (pa_cons (pe_glob (v := V.ref (c 10)) (by rfl) T.g10 rfl) pa_nil))) (pa_cons (pe_callB call_isX (by rfl) T.isi PyProof.Rows.boot_isinstance (pa_cons (pv 0) (pa_cons (pe_glob (v := V.ref (c 11)) (by rfl) T.g11 rfl) pa_nil))) pa_nil))))) (pss_cons (ps_set (i := 1) nd rfl (.inl rfl) (pe_op op_addA (pv 1) (pe_lst (pa_cons (pe_callB call_isX (by rfl) T.isi PyProof.Rows.boot_isinstance (pa_cons (pv 0) (pa_cons (pe_glob (v := V.ref (c 12)) (by rfl) T.g12 rfl) pa_nil))) (pa_cons (pe_callB call_isX (by rfl) T.isi PyProof.Rows.boot_isinstance (pa_cons (pv 0) (pa_cons (pe_glob (v := V.ref (c 13)) (by rfl) T.g13 rfl) pa_nil))) pa_nil))))) (pss_cons (ps_set (i := 1) nd rfl (.inl rfl) (pe_op op_addA (pv 1) (pe_lst (pa_cons (pe_callB call_isX (by rfl) T.isi PyProof.Rows.boot_isinstance (pa_cons (pv 0) (pa_cons (pe_glob (v := V.ref (c 14)) (by rfl) T.g14 rfl) pa_nil))) (pa_cons (pe_callB call_isX (by rfl) T.isi PyProof.Rows.boot_isinstance (pa_cons (pv 0) (pa_cons (pe_glob (v := V.ref (c 15)) (by rfl) T.g15 rfl) pa_nil))) (pa_cons (pe_callB call_isX (by rfl) T.isi PyProof.Rows.boot_isinstance (pa_cons (pv 0) (pa_cons (pe_glob (v := V.ref (c 16)) (by rfl) T.g16 rfl) pa_nil))) pa_nil)))))) (pss_one (ps_ret (pe_op op_addA (pv 1) (pe_lst (pa_cons (pe_callB call_isX (by rfl) T.isi PyProof.Rows.boot_isinstance (pa_cons (pv 0) (pa_cons (pe_glob (v := V.ref (c 17)) (by rfl) T.g17 rfl) pa_nil))) pa_nil))))))))))), ?_⟩
    have e : Ex H H := Ex.refl H
    refine s_asgL (el_lst (ea_cons (ev_isX (ev_var rfl) ev_c (isEx_mono e hx) hC relRef (hk 0 (by decide))) (ea_cons (ev_isX (ev_var rfl) ev_c (isEx_mono e hx) hC relRef (hk 1 (by decide))) (ea_cons (ev_isX (ev_var rfl) ev_c (isEx_mono e hx) hC relRef (hk 2 (by decide))) ea_nil))) (by simp)) fun p0 H0 n0 e0 h0 => ?_
    have e := e.trans e0
    refine s_asgL (el_add (ev_var rfl) h0 (el_lst (ea_cons (ev_isX (ev_var rfl) ev_c (isEx_mono e hx) hC relRef (hk 3 (by decide))) (ea_cons (ev_isX (ev_var rfl) ev_c (isEx_mono e hx) hC relRef (hk 4 (by decide))) ea_nil)) (by simp)) (by simp)) fun p1 H1 n1 e1 h1 => ?_
    have e := e.trans e1
    refine s_asgL (el_add (ev_var rfl) h1 (el_lst (ea_cons (ev_isX (ev_var rfl) ev_c (isEx_mono e hx) hC relRef (hk 5 (by decide))) (ea_cons (ev_isX (ev_var rfl) ev_c (isEx_mono e hx) hC relRef (hk 6 (by decide))) (ea_cons (ev_isX (ev_var rfl) ev_c (isEx_mono e hx) hC relRef (hk 7 (by decide))) ea_nil))) (by simp)) (by simp)) fun p2 H2 n2 e2 h2 => ?_
    have e := e.trans e2
    refine s_asgL (el_add (ev_var rfl) h2 (el_lst (ea_cons (ev_isX (ev_var rfl) ev_c (isEx_mono e hx) hC relRef (hk 8 (by decide))) (ea_cons (ev_isX (ev_var rfl) ev_c (isEx_mono e hx) hC relRef (hk 9 (by decide))) ea_nil)) (by simp)) (by simp)) fun p3 H3 n3 e3 h3 => ?_
    have e := e.trans e3
    refine s_asgL (el_add (ev_var rfl) h3 (el_lst (ea_cons (ev_isX (ev_var rfl) ev_c (isEx_mono e hx) hC relRef (hk 10 (by decide))) (ea_cons (ev_isX (ev_var rfl) ev_c (isEx_mono e hx) hC relRef (hk 11 (by decide))) ea_nil)) (by simp)) (by simp)) fun p4 H4 n4 e4 h4 => ?_
    have e := e.trans e4
    refine s_asgL (el_add (ev_var rfl) h4 (el_lst (ea_cons (ev_isX (ev_var rfl) ev_c (isEx_mono e hx) hC relRef (hk 12 (by decide))) (ea_cons (ev_isX (ev_var rfl) ev_c (isEx_mono e hx) hC relRef (hk 13 (by decide))) ea_nil)) (by simp)) (by simp)) fun p5 H5 n5 e5 h5 => ?_
    have e := e.trans e5
    refine s_asgL (el_add (ev_var rfl) h5 (el_lst (ea_cons (ev_isX (ev_var rfl) ev_c (isEx_mono e hx) hC relRef (hk 14 (by decide))) (ea_cons (ev_isX (ev_var rfl) ev_c (isEx_mono e hx) hC relRef (hk 15 (by decide))) (ea_cons (ev_isX (ev_var rfl) ev_c (isEx_mono e hx) hC relRef (hk 16 (by decide))) ea_nil))) (by simp)) (by simp)) fun p6 H6 n6 e6 h6 => ?_
    have e := e.trans e6
    refine s_retL (el_add (ev_var rfl) h6 (el_lst (ea_cons (ev_isX (ev_var rfl) ev_c (isEx_mono e hx) hC relRef (hk 17 (by decide))) ea_nil) (by simp)) (by simp)) fun p H' hp e' h' => ?_
    exact q p H' (fresh_back e0 (fresh_back e1 (fresh_back e2 (fresh_back e3 (fresh_back e4 (fresh_back e5 (fresh_back e6 hp))))))) (e.trans e') h'
theorem ok_errs {f : Addr} {fd : FuncData} {k : Nat} (F : Fun K "_law_errors" "_law_errors" sErrs f fd) (T : Txt K mg c cH) (I13 : Ini P w K mg base (c 13) "given") (I14 : Ini P w K mg base (c 14) "wanted") (I15 : Ini P w K mg base (c 15) "most") (I16 : Ini P w K mg base (c 16) "reason") (I17 : Ini P w K mg base (c 17) "at") : FnOk P w K mg base CX0 3 f fd ["value"] (spErrs K c) := by
  refine F.ok scErrs (fun vs H Q E h => ?_) (fun cdv A outer s H vs Q E hr h => ?_)
  · obtain ⟨v, rfl, _⟩ := h
    rfl
  · obtain ⟨v, rfl, q⟩ := h
    have nd := scErrs.nd
    obtain ⟨f13, d13, i13, t13, F13, b13⟩ := I13.all
    obtain ⟨f14, d14, i14, t14, F14, b14⟩ := I14.all
    obtain ⟨f15, d15, i15, t15, F15, b15⟩ := I15.all
    obtain ⟨f16, d16, i16, t16, F16, b16⟩ := I16.all
    obtain ⟨f17, d17, i17, t17, F17, b17⟩ := I17.all
    refine ⟨_, pss_cons (ps_set (i := 1) nd rfl (.inl rfl) (pe_lst (pa_cons (pe_exc1 PySem.F.excBase_ValueError T.q0 T.g0 T.k0 (by rfl) pe_str) (pa_cons (pe_exc1 PySem.F.excBase_ValueError T.q1 T.g1 T.k1 (by rfl) pe_str) (pa_cons (pe_exc1 PySem.F.excBase_ValueError T.q2 T.g2 T.k2 (by rfl) pe_str) (pa_cons (pe_exc1 PySem.F.excBase_ValueError T.q3 T.g3 T.k3 (by rfl) pe_str) pa_nil)))))) (pss_cons (ps_set (i := 1) nd rfl (.inl rfl) (pe_op op_addA (pv 1) (pe_lst (pa_cons (pe_exc1 PySem.F.excBase_ValueError T.q4 T.g4 T.k4 (by rfl) pe_str) (pa_cons (pe_exc1 PySem.F.excBase_ValueError T.q5 T.g5 T.k5 (by rfl) pe_str) (pa_cons (pe_exc1 PySem.F.excBase_ValueError T.q6 T.g6 T.k6 (by rfl) pe_str) (pa_cons (pe_exc1 PySem.F.excBase_ValueError T.q7 T.g7 T.k7 (by rfl) pe_str) pa_nil))))))) (pss_cons (ps_set (i := 1) nd rfl (.inl rfl) (pe_op op_addA (pv 1) (pe_lst (pa_cons (pe_exc1 PySem.F.excBase_ValueError T.q8 T.g8 T.k8 (by rfl) pe_str) (pa_cons (pe_exc1 PySem.F.excBase_ValueError T.q9 T.g9 T.k9 (by rfl) pe_str) (pa_cons (pe_exc1 PySem.F.excBase_ValueError T.q10 T.g10 T.k10 (by rfl) pe_str) (pa_cons (pe_exc1 PySem.F.excBase_ValueError T.q11 T.g11 T.k11 (by rfl) pe_str) pa_nil))))))) (pss_cons (ps_set (i := 1) nd rfl (.inl rfl) (pe_op op_addA (pv 1) (pe_lst (pa_cons (pe_exc1 PySem.F.excBase_ValueError T.q12 T.g12 T.k12 (by rfl) pe_str) (pa_cons (pe_mkV T.o13 i13 t13 F13 (hr.mono (by omega)) b13 .nil pass0 (by rfl) T.g13 (pa_cons (pv 0) pa_nil)) (pa_cons (pe_mkV T.o14 i14 t14 F14 (hr.mono (by omega)) b14 .nil pass0 (by rfl) T.g14 (pa_cons (pv 0) pa_nil)) (pa_cons (pe_mkV T.o15 i15 t15 F15 (hr.mono (by omega)) b15 .nil pass0 (by rfl) T.g15 (pa_cons (pv 0) pa_nil)) pa_nil))))))) (pss_one (ps_ret (pe_op op_addA (pv 1) (pe_lst (pa_cons (pe_mkV T.o16 i16 t16 F16 (hr.mono (by omega)) b16 .nil pass0 (by rfl) T.g16 (pa_cons (pv 0) pa_nil)) (pa_cons (pe_mkV T.o17 i17 t17 F17 (hr.mono (by omega)) b17 .nil pass0 (by rfl) T.g17 (pa_cons (pv 0) pa_nil)) pa_nil))))))))), ?_⟩
    refine s_asgLX (ex_lst (ex_cons (ex_one ev_c) (ex_cons (ex_one ev_c) (ex_cons (ex_one ev_c) (ex_cons (ex_one ev_c) ex_nil)))) (by simp)) fun p0 x0 H0 n0 e0 h0 z0 => ?_
    have e := e0
    refine s_asgLX (ex_add (ev_var rfl) h0 z0 (ex_lst (ex_cons (ex_one ev_c) (ex_cons (ex_one ev_c) (ex_cons (ex_one ev_c) (ex_cons (ex_one ev_c) ex_nil)))) (by simp)) (by simp)) fun p1 x1 H1 n1 e1 h1 z1 => ?_
    have e := e.trans e1
    refine s_asgLX (ex_add (ev_var rfl) h1 z1 (ex_lst (ex_cons (ex_one ev_c) (ex_cons (ex_one ev_c) (ex_cons (ex_one ev_c) (ex_cons (ex_one ev_c) ex_nil)))) (by simp)) (by simp)) fun p2 x2 H2 n2 e2 h2 z2 => ?_
    have e := e.trans e2
    refine s_asgLX (ex_add (ev_var rfl) h2 z2 (ex_lst (ex_cons (ex_one ev_c) (ex_cons (ex_made (ev_var rfl)) (ex_cons (ex_made (ev_var rfl)) (ex_cons (ex_made (ev_var rfl)) ex_nil)))) (by simp)) (by simp)) fun p3 x3 H3 n3 e3 h3 z3 => ?_
    have e := e.trans e3
    refine s_retLX (ex_add (ev_var rfl) h3 z3 (ex_lst (ex_cons (ex_made (ev_var rfl)) (ex_cons (ex_made (ev_var rfl)) ex_nil)) (by simp)) (by simp)) fun p xs H' hp e' h' z' => ?_
    exact q p xs H' (fresh_back e0 (fresh_back e1 (fresh_back e2 (fresh_back e3 hp)))) (e.trans e') h' z'
theorem ok_kept {f : Addr} {fd : FuncData} {k : Nat} (F : Fun K "_law_kept" "_law_kept" sKept f fd) (T : Txt K mg c cH) (I13 : Ini P w K mg base (c 13) "given") (I14 : Ini P w K mg base (c 14) "wanted") (I15 : Ini P w K mg base (c 15) "most") (I16 : Ini P w K mg base (c 16) "reason") (I17 : Ini P w K mg base (c 17) "at") : FnOk P w K mg base CX0 3 f fd ["value"] spKept := by
  refine F.ok scKept (fun vs H Q E h => ?_) (fun cdv A outer s H vs Q E hr h => ?_)
  · obtain ⟨v, rfl, _⟩ := h
    rfl
  · obtain ⟨v, rfl, q⟩ := h
    have nd := scKept.nd
    obtain ⟨f13, d13, i13, t13, F13, b13⟩ := I13.all
    obtain ⟨f14, d14, i14, t14, F14, b14⟩ := I14.all
    obtain ⟨f15, d15, i15, t15, F15, b15⟩ := I15.all
    obtain ⟨f16, d16, i16, t16, F16, b16⟩ := I16.all
    obtain ⟨f17, d17, i17, t17, F17, b17⟩ := I17.all
    refine ⟨_, pss_cons (ps_set (i := 1) nd rfl (.inl rfl) (pe_lst (pa_cons (pe_xv (pe_mkV T.o13 i13 t13 F13 (hr.mono (by omega)) b13 .nil pass0 (by rfl) T.g13 (pa_cons (pv 0) pa_nil))) (pa_cons (pe_xv (pe_mkV T.o14 i14 t14 F14 (hr.mono (by omega)) b14 .nil pass0 (by rfl) T.g14 (pa_cons (pv 0) pa_nil))) (pa_cons (pe_xv (pe_mkV T.o15 i15 t15 F15 (hr.mono (by omega)) b15 .nil pass0 (by rfl) T.g15 (pa_cons (pv 0) pa_nil))) pa_nil))))) (pss_one (ps_ret (pe_op op_addA (pv 1) (pe_lst (pa_cons (pe_xv (pe_mkV T.o16 i16 t16 F16 (hr.mono (by omega)) b16 .nil pass0 (by rfl) T.g16 (pa_cons (pv 0) pa_nil))) (pa_cons (pe_xv (pe_mkV T.o17 i17 t17 F17 (hr.mono (by omega)) b17 .nil pass0 (by rfl) T.g17 (pa_cons (pv 0) pa_nil))) pa_nil)))))), ?_⟩
    refine s_asgL (el_lst (ea_cons (ev_field (made (D := []) (ev_var rfl)) T.x13 T.n13) (ea_cons (ev_field (made (D := []) (ev_var rfl)) T.x14 T.n14) (ea_cons (ev_field (made (D := []) (ev_var rfl)) T.x15 T.n15) ea_nil))) (by simp)) fun p0 H0 n0 e0 h0 => ?_
    refine s_retL (el_add (ev_var rfl) h0 (el_lst (ea_cons (ev_field (made (D := []) (ev_var rfl)) T.x16 T.n16) (ea_cons (ev_field (made (D := []) (ev_var rfl)) T.x17 T.n17) ea_nil)) (by simp)) (by simp)) fun p H' hp e' h' => ?_
    exact q p H' (fresh_back e0 hp) (e0.trans e') h'
end
end K00
end
section
set_option Elab.async false
set_option linter.all false
set_option maxRecDepth 100000
set_option maxHeartbeats 1000000
open PySem PySem.Spec PyProof.Rows L2 HbE HbA Evl HbX
-- expressions
local macro_rules | `(tactic| lcg_sub) => `(tactic| first
  | ((with_reducible show PE _ (.Constant _ _ _) _); first | exact pe_int | exact pe_str | exact pe_non | exact pe_bl)
  | ((with_reducible show PE _ (.Name _ _) _); first | exact pv 0 | exact pv 1 | exact pv 2 | exact pv 3 | exact pv 4 | exact pv 5 | exact pv 6 | exact pv 7 | exact pv 8)
  | ((with_reducible show PE _ (.BinOp _ .Add _ _) _); first | exact pe_op op_addA (by lcg_sub) (by lcg_sub))
  | ((with_reducible show PE _ (.BinOp _ .Sub _ _) _); first | exact pe_op op_sub (by lcg_sub) (by lcg_sub))
  | ((with_reducible show PE _ (.BinOp _ .Mult _ _) _); first | exact pe_op op_mul (by lcg_sub) (by lcg_sub))
  | ((with_reducible show PE _ (.BinOp _ .Mod _ _) _); first | exact pe_op op_mod (by lcg_sub) (by lcg_sub))
  | ((with_reducible show PE _ (.BinOp _ .FloorDiv _ _) _); first | exact pe_op op_fdiv (by lcg_sub) (by lcg_sub))
  | ((with_reducible show PE _ (.BinOp _ .Pow _ _) _); first | exact pe_op op_powB (by lcg_sub) (by lcg_sub))
  | ((with_reducible show PE _ (.Subscript _ _ _) _); first | exact pe_ix ix_any (by lcg_sub) (by lcg_sub) (fun _ _ => rfl))
  | ((with_reducible show PE _ (.UnaryOp .USub _ _) _); first | exact pe_un un_neg (by lcg_sub))
  | ((with_reducible show PE _ (.List _ _) _); first | exact pe_lst (by keq_rows))
  | ((with_reducible show PE _ (.Tuple _ _ _) _); first | exact pe_tup (by keq_rows))
  | ((with_reducible show PE _ (.Dict _ _ _) _); first | exact pe_dnewK)
  | ((with_reducible show PE _ (.IfExp _ _ _ _) _); first | exact pe_ifExp (by lcg_off) (by lcg_sub) (by lcg_sub))
  | ((with_reducible show PE _ (.Compare _ [.Lt] _ _) _); first | exact pe_cmpR op_lt (by lcg_sub) (by lcg_sub) (nomark _))
  | ((with_reducible show PE _ (.Call (.Name "len" _) _ _ _) _); first | exact pe_callB call_lenA (by rfl) (by assumption) PySem.boot_len (by keq_rows))
  | ((with_reducible show PE _ (.Call (.Name "int" _) _ _ _) _); first | exact pe_callTy call_intA (by rfl) (by assumption) HbA.b_int (by keq_rows))
  | ((with_reducible show PE _ (.Call (.Name "abs" _) _ _ _) _); first | exact pe_callB call_abs (by rfl) (by assumption) HbA.b_abs (by keq_rows))
  | ((with_reducible show PE _ (.Call (.Name "max" _) _ _ _) _); first | exact pe_callB (call_max2 rfl) (by rfl) (by assumption) HbA.b_max (by keq_rows))
  | ((with_reducible show PE _ (.Call (.Name "min" _) _ _ _) _); first | exact pe_callB (call_min2 rfl) (by rfl) (by assumption) HbA.b_min (by keq_rows)))
local macro_rules | `(tactic| keq_rows) => `(tactic| first | ((with_reducible show PA _ [] _); exact pa_nil) | ((with_reducible show PA _ (_ :: _) _); exact pa_cons (by lcg_sub) (by keq_rows)))
local macro_rules | `(tactic| lcg_off) => `(tactic| first
  | ((with_reducible show PT _ (.Compare _ [.Gt] _ _) _); exact pt_cmpR op_gt (by lcg_sub) (by lcg_sub) (nomark _))
  | ((with_reducible show PT _ (.Compare _ [.Lt] _ _) _); exact pt_cmpR op_lt (by lcg_sub) (by lcg_sub) (nomark _)))
local macro_rules | `(tactic| keq_hits) => `(tactic| first
  | ((with_reducible show PS _ (.Return (some _) _) _); exact ps_ret (by lcg_sub))
  | ((with_reducible show PS _ (.If _ _ _ _) _); exact ps_if (by lcg_off) (by lcg_src) (by lcg_src))
  | ((with_reducible show PS _ (.Assign [.Name _ _] _ _) _); first
    | exact ps_set (i := 2) (by assumption) rfl (.inl rfl) (by lcg_sub)
    | exact ps_set (i := 3) (by assumption) rfl (.inl rfl) (by lcg_sub)
    | exact ps_set (i := 4) (by assumption) rfl (.inl rfl) (by lcg_sub)
    | exact ps_set (i := 5) (by assumption) rfl (.inl rfl) (by lcg_sub))
  | ((with_reducible show PS _ (.Assign [.Subscript _ _ _] _ _) _); exact ps_asg (by lcg_sub) (pg_sub (by lcg_sub) (by lcg_sub) set_A)))
local macro_rules | `(tactic| lcg_src) => `(tactic| first
  | ((with_reducible show PSs _ [] _); exact pss_nil)
  | ((with_reducible show PSs _ [_] _); exact pss_one (by keq_hits))
  | ((with_reducible show PSs _ (_ :: _) _); exact pss_cons (by keq_hits) (by lcg_src)))


namespace K00
abbrev sLaw : Stmt := topS 27
abbrev NL : List Str := ["script", "spot", "hat", "turn", "value", "at", "error", "one", "place", "kind"]
theorem scLaw : FnScope NL ["script"] (defScope sLaw) := ⟨rfl, rfl, rfl, by decide +kernel, rfl, by decide +kernel, by decide +kernel⟩
abbrev sIni (i : Nat) : Stmt := inClass (topS i) 0
/-- what the written part says of HardError, read as a class -/
structure HardC (K : PySem.W.Frag) (mg : Str → Option Value) (cH : Addr) : Prop where
  g : mg "HardError" = some (.ref cH)
  s : PySem.W.specialIn K (.ref cH) "__getattribute__" = some (some (.builtin "type.__getattribute__"))
  r : PySem.W.readsIn K cH (.type "type") = true
  f : PySem.W.findCls K (.ref cH) (.type "type") "__init__" = some (.val (.builtin "ValueError.__init__"))
section
variable {P : Program} {w : World} {K : PySem.W.Frag} {mg : Str → Option Value} {base : Heap} {c : Nat → Addr} {cH : Addr}

theorem scI13 : FnScope ["self", "given"] ["self", "given"] (defScope (sIni 15)) := ⟨rfl, rfl, rfl, by decide +kernel, rfl, by decide +kernel, by decide +kernel⟩
theorem ok_ini13 {f : Addr} {fd : FuncData} {C : Addr} (F : Fun K "__init__" "InvalidNumber.__init__" (sIni 15) f fd) (B : HardC K mg cH) (T : OexC K C) (n : PySem.W.findIn K (.ref C) "given" = some none) : FnOk P w K mg base CX0 1 f fd ["self", "given"] (spInit K C "given") := by
  refine F.ok scI13 (fun vs H Q E h => ?_) (fun cdv A outer s H vs Q E hr h => ?_)
  · obtain ⟨a, v, rfl, _⟩ := h
    rfl
  · obtain ⟨a, v, rfl, ha, q⟩ := h
    refine ⟨_, pss_cons (ps_expr (pe_hinit (by rfl) B.g B.s B.r B.f (pa_cons (pv 0) (pa_cons pe_str pa_nil)))) (pss_one (ps_ost (pv 0) (pv 1))), ?_⟩
    exact ⟨_, rfl, a, C, _, rfl, by simp, T, ha, _, rfl, _, rfl, a, C, rfl, T, n, .inl ⟨ha, fun d hd _ => q d hd⟩⟩
theorem scI14 : FnScope ["self", "wanted"] ["self", "wanted"] (defScope (sIni 16)) := ⟨rfl, rfl, rfl, by decide +kernel, rfl, by decide +kernel, by decide +kernel⟩
theorem ok_ini14 {f : Addr} {fd : FuncData} {C : Addr} (F : Fun K "__init__" "UnknownName.__init__" (sIni 16) f fd) (B : HardC K mg cH) (T : OexC K C) (n : PySem.W.findIn K (.ref C) "wanted" = some none) : FnOk P w K mg base CX0 1 f fd ["self", "wanted"] (spInit K C "wanted") := by
  refine F.ok scI14 (fun vs H Q E h => ?_) (fun cdv A outer s H vs Q E hr h => ?_)
  · obtain ⟨a, v, rfl, _⟩ := h
    rfl
  · obtain ⟨a, v, rfl, ha, q⟩ := h
    refine ⟨_, pss_cons (ps_expr (pe_hinit (by rfl) B.g B.s B.r B.f (pa_cons (pv 0) (pa_cons pe_str pa_nil)))) (pss_one (ps_ost (pv 0) (pv 1))), ?_⟩
    exact ⟨_, rfl, a, C, _, rfl, by simp, T, ha, _, rfl, _, rfl, a, C, rfl, T, n, .inl ⟨ha, fun d hd _ => q d hd⟩⟩
theorem scI15 : FnScope ["self", "most"] ["self", "most"] (defScope (sIni 17)) := ⟨rfl, rfl, rfl, by decide +kernel, rfl, by decide +kernel, by decide +kernel⟩
theorem ok_ini15 {f : Addr} {fd : FuncData} {C : Addr} (F : Fun K "__init__" "TooMany.__init__" (sIni 17) f fd) (B : HardC K mg cH) (T : OexC K C) (n : PySem.W.findIn K (.ref C) "most" = some none) : FnOk P w K mg base CX0 1 f fd ["self", "most"] (spInit K C "most") := by
  refine F.ok scI15 (fun vs H Q E h => ?_) (fun cdv A outer s H vs Q E hr h => ?_)
  · obtain ⟨a, v, rfl, _⟩ := h
    rfl
  · obtain ⟨a, v, rfl, ha, q⟩ := h
    refine ⟨_, pss_cons (ps_expr (pe_hinit (by rfl) B.g B.s B.r B.f (pa_cons (pv 0) (pa_cons pe_str pa_nil)))) (pss_one (ps_ost (pv 0) (pv 1))), ?_⟩
    exact ⟨_, rfl, a, C, _, rfl, by simp, T, ha, _, rfl, _, rfl, a, C, rfl, T, n, .inl ⟨ha, fun d hd _ => q d hd⟩⟩
theorem scI16 : FnScope ["self", "reason"] ["self", "reason"] (defScope (sIni 18)) := ⟨rfl, rfl, rfl, by decide +kernel, rfl, by decide +kernel, by decide +kernel⟩
theorem ok_ini16 {f : Addr} {fd : FuncData} {C : Addr} (F : Fun K "__init__" "Refused.__init__" (sIni 18) f fd) (B : HardC K mg cH) (T : OexC K C) (n : PySem.W.findIn K (.ref C) "reason" = some none) : FnOk P w K mg base CX0 1 f fd ["self", "reason"] (spInit K C "reason") := by
  refine F.ok scI16 (fun vs H Q E h => ?_) (fun cdv A outer s H vs Q E hr h => ?_)
  · obtain ⟨a, v, rfl, _⟩ := h
    rfl
  · obtain ⟨a, v, rfl, ha, q⟩ := h
    refine ⟨_, pss_cons (ps_expr (pe_hinit (by rfl) B.g B.s B.r B.f (pa_cons (pv 0) (pa_cons pe_str pa_nil)))) (pss_one (ps_ost (pv 0) (pv 1))), ?_⟩
    exact ⟨_, rfl, a, C, _, rfl, by simp, T, ha, _, rfl, _, rfl, a, C, rfl, T, n, .inl ⟨ha, fun d hd _ => q d hd⟩⟩
theorem scI17 : FnScope ["self", "at"] ["self", "at"] (defScope (sIni 19)) := ⟨rfl, rfl, rfl, by decide +kernel, rfl, by decide +kernel, by decide +kernel⟩
theorem ok_ini17 {f : Addr} {fd : FuncData} {C : Addr} (F : Fun K "__init__" "ParseError.__init__" (sIni 19) f fd) (B : HardC K mg cH) (T : OexC K C) (n : PySem.W.findIn K (.ref C) "at" = some none) : FnOk P w K mg base CX0 1 f fd ["self", "at"] (spInit K C "at") := by
  refine F.ok scI17 (fun vs H Q E h => ?_) (fun cdv A outer s H vs Q E hr h => ?_)
  · obtain ⟨a, v, rfl, _⟩ := h
    rfl
  · obtain ⟨a, v, rfl, ha, q⟩ := h
    refine ⟨_, pss_cons (ps_expr (pe_hinit (by rfl) B.g B.s B.r B.f (pa_cons (pv 0) (pa_cons pe_str pa_nil)))) (pss_one (ps_ost (pv 0) (pv 1))), ?_⟩
    exact ⟨_, rfl, a, C, _, rfl, by simp, T, ha, _, rfl, _, rfl, a, C, rfl, T, n, .inl ⟨ha, fun d hd _ => q d hd⟩⟩
/-- a value that repr tells -/
def Shw (K : PySem.W.Frag) (H : Hp) (v : V) : Prop := ∃ d, Dq K H v d ∧ d.showable = true ∧ d.depth ≤ 60 ∧ d.shown.length ≤ sizeLine
theorem dp_mono {H H' : Hp} (e : Ex H H') : ∀ {v : V} {d : PyData}, Dp K H v d → Dp K H' v d := by
  have one : ∀ (d : PyData) (v : V), Dp K H v d → Dp K H' v d := fun d =>
    PyData.rec (motive_1 := fun d => ∀ v, Dp K H v d → Dp K H' v d) (motive_2 := fun ds => ∀ vs, DpAll K H vs ds → DpAll K H' vs ds) (motive_3 := fun _ => True) (motive_4 := fun _ => True)
      (fun v h => by cases h; constructor) (fun _ v h => by cases h; constructor) (fun _ v h => by cases h; constructor) (fun _ v h => by cases h; constructor)
      (fun ds ih v h => by cases h with | lst hs ha => exact .lst (ex_l e hs) (ih _ ha))
      (fun ds ih v h => by cases h with | tup hs ha => exact .tup (ex_t e hs) (ih _ ha))
      (fun _ _ v h => by cases h)
      (fun vs h => by cases h; exact .nil)
      (fun d ds ih ihs vs h => by cases h with | cons h1 h2 => exact .cons (ih _ h1) (ihs _ h2))
      trivial (fun _ _ _ _ => trivial) (fun _ _ _ _ => trivial) d
  exact fun {v d} h => one d v h
theorem shw_mono {H H' : Hp} {v : V} (e : Ex H H') (h : Shw K H v) : Shw K H' v := by
  obtain ⟨d, h1, h2⟩ := h
  refine ⟨d, ?_, h2⟩
  cases h1 with
  | of h1 => exact .of (dp_mono e h1)
  | dict h1 => exact .dict (e _ _ h1)
def spLaw (K : PySem.W.Frag) : Sp := fun vs H Q _ => ∃ (a : Addr) (ns : List Int), vs = [.ref a] ∧ SqL K H a (ns.map V.int) ∧ ns.length ≤ 63 ∧ ∀ H', Q (.bl true) H'
structure Bl (mg : Str → Option Value) : Prop where
  len : mg "len" = none
  max : mg "max" = none
  min : mg "min" = none
  range : mg "range" = none
  repr : mg "repr" = none
  enum : mg "enumerate" = none
  ve : mg "ValueError" = none
theorem paired_get {α β : Type} {R : α → β → Prop} : ∀ {xs : List α} {ys : List β} {i : Nat} {x : α}, Paired R xs ys → xs[i]? = some x → ∃ y, ys[i]? = some y ∧ R x y
  | _, _, _, _, .nil, e => by simp at e
  | _, _, 0, _, .cons r _, e => by simp at e; subst e; exact ⟨_, rfl, r⟩
  | _, _, i + 1, _, .cons _ t, e => by simpa using paired_get t (by simpa using e)
theorem cp4 : CPowB 10 40 := ⟨by decide, by decide +kernel⟩
theorem given_none (n : Nat) (v : Nat → V) : given n (fun _ => false) v = [] := by simp [given]
theorem given_all (n : Nat) (v : Nat → V) : given n (fun _ => true) v = (List.range n).map v := by
  unfold given
  rw [List.filter_eq_self.mpr (fun _ _ => rfl)]
theorem rv_str {H : Hp} {x : Str} : RV (rEqA true) (.str x) (.str x) H (.bl false) := fun H1 _ Q q => by
  unfold rEqA
  rw [if_pos (show scal (.str x) (.str x) = true from rfl)]
  simpa using q H1 (Ex.refl _)
theorem rv_int {H : Hp} {i j : Int} : RV (rEqA false) (.int i) (.int j) H (.bl (decide (i = j))) := fun H1 _ Q q => by
  unfold rEqA
  rw [if_pos (show scal (.int i) (.int j) = true from rfl)]
  simpa using q H1 (Ex.refl _)
theorem el_callX {sp : Sp} {E : XK} {te : TE} {σ : L2.St} {H : Hp} {P : V → Hp → Prop} {xs : List V} (h : EvX te σ H P) (hs : ∀ v H1, Ex H H1 → P v H1 → SpL sp [v] H1 xs) : EvL (tCall sp [] E (tCons te tNil)) σ H xs := fun H1 e Q q =>
  h H1 e _ fun v H2 e2 hv => hs v H2 (e.trans e2) hv H2 (Ex.refl _) Q (fun p H3 hp e3 h3 => q p H3 (fresh_back e2 hp) (e2.trans e3) h3) E
theorem rc_repr {H : Hp} {v : V} (h : Shw K H v) : ∃ t : Str, RC (rRepr K) [v] H (.str t) := by
  obtain ⟨d, h1, h2, h3, h4⟩ := id h
  refine ⟨d.shown, fun H1 e Q q => ⟨v, d, rfl, ?_, h2, h3, h4, q H1 (Ex.refl _)⟩⟩
  cases h1 with
  | of h1 => exact .of (dp_mono e h1)
  | dict h1 => exact .dict (e _ _ h1)
theorem datN_nil {H : Hp} {p : Addr} (h : H p = some (.lst [])) : datN 8 H (.ref p) = some (.list []) := datN_bools (bs := []) h
theorem shaped_bools : ∀ k : Nat, k < 18 → SeqAt.shaped (.list ((List.range 18).map fun i => PyData.bool (decide (k = i)))) = true := by decide +kernel
theorem call_reprK {X : Cx} {K' : PySem.W.Frag} (e : X.K = K') (hg : X.A.guards = some []) (hu : X.A.units + 64 < cLine) : CallR X (.builtin "repr") (rRepr K') := by
  subst e
  exact call_reprD hg hu
theorem ok_law {f fHat fOf fKi fEr fKe : Addr} {fd dHat dOf dKi dEr dKe : FuncData} (F : Fun K "law" "law" sLaw f fd) (T : Txt K mg c cH) (B : Bl mg)
    (GH : FnOk P w K mg base CX0 3 fHat dHat ["script", "spot"] (spHat K)) (gH : mg "_law_fr_hat" = some (.ref fHat)) (kH : PySem.W.keepIn K (.ref fHat) = true) (bH : Binds K dHat ["script", "spot"] [])
    (GO : FnOk P w K mg base CX0 3 fOf dOf ["hat", "items"] spOf) (gO : mg "_law_fr_of" = some (.ref fOf)) (kO : PySem.W.keepIn K (.ref fOf) = true) (bO : Binds K dOf ["hat", "items"] [])
    (GK : FnOk P w K mg base CX0 3 fKi dKi ["error"] (spKinds K c)) (gK : mg "_law_kinds" = some (.ref fKi)) (kK : PySem.W.keepIn K (.ref fKi) = true) (bK : Binds K dKi ["error"] [])
    (GE : FnOk P w K mg base CX0 3 fEr dEr ["value"] (spErrs K c)) (gE : mg "_law_errors" = some (.ref fEr)) (kE : PySem.W.keepIn K (.ref fEr) = true) (bE : Binds K dEr ["value"] [])
    (GP : FnOk P w K mg base CX0 3 fKe dKe ["value"] spKept) (gP : mg "_law_kept" = some (.ref fKe)) (kP : PySem.W.keepIn K (.ref fKe) = true) (bP : Binds K dKe ["value"] []) :
    FnG P w K mg base CX0 4 f fd ["script"] (spLaw K) := by
  refine F.okG scLaw (fun vs H Q E h => ?_) (fun cdv A outer s H vs Q E hg hr h => ?_)
  · obtain ⟨a, ns, rfl, _⟩ := h
    rfl
  · obtain ⟨a, ns, rfl, hS, hlen, q⟩ := h
    have nd := scLaw.nd
    have bl := B.len
    have bx := B.max
    have bm := B.min
    have hu := hr.units
    refine ⟨_, (pss_cons (ps_for PassesOwn.never rfl (pi_range1 (by rfl) B.range (pa_cons (pe_callB (call_max2 rfl) (by rfl) bx HbA.b_max (pa_cons pe_int (pa_cons (pe_callB (call_min2 rfl) (by rfl) bm HbA.b_min (pa_cons pe_int (pa_cons (pe_callB call_len_seq (by rfl) bl PySem.boot_len (pa_cons (pv 0) pa_nil)) pa_nil))) pa_nil))) pa_nil)) (pg_name (i := 1) nd rfl (Or.inl rfl)) (pss_cons (ps_set (i := 2) nd rfl (.inl rfl) (pe_call GH hr (by rfl) gH kH bH .nil pass0 (pa_cons (pv 0) (pa_cons (pv 1) pa_nil)))) (pss_one (ps_for PassesOwn.never rfl (pi_range1 (by rfl) B.range (pa_cons pe_int pa_nil)) (pg_name (i := 3) nd rfl (Or.inl rfl)) (pss_cons (ps_set (i := 4) nd rfl (.inr rfl) (pe_call GO hr (by rfl) gO kO bO .nil pass0 (pa_cons (pv 2) (pa_cons (by lcg_sub) pa_nil)))) (pss_cons (ps_if (pt_cmpR (op_neA hu) (pe_lc (own := [("one", 7)]) (g := gName 7) (tt := _) rfl nd (pi_list (pe_call GP hr (by rfl) gP kP bP .nil pass0 (pa_cons (pv 4) pa_nil))) (blkOk_by (N := NL) (sc := defScope sLaw) (by decide +kernel)) (fun _ _ _ _ _ => (pg_name (i := 7) nd rfl (Or.inl rfl))) (fun _ _ _ _ _ => (pts_one (pt_cmpR (op_neA hu) (pe_callB (call_reprK (K' := K) rfl hg hu) (by rfl) B.repr PyProof.Rows.boot_repr (pa_cons (pv 7) pa_nil)) (pe_callB (call_reprK (K' := K) rfl hg hu) (by rfl) B.repr PyProof.Rows.boot_repr (pa_cons (pv 4) pa_nil)) (nomark _)))) (fun _ _ _ _ _ => pv 7)) (pe_lst pa_nil) (nomark _)) (pss_one (ps_ret pe_bl)) pss_nil) (pss_one (ps_for PassesOwn.never rfl (pi_enum (by rfl) B.enum (pa_cons (pe_call GE hr (by rfl) gE kE bE .nil pass0 (pa_cons (pv 4) pa_nil)) pa_nil)) (pg_tup rfl (pgs_cons (pg_name (i := 5) nd rfl (Or.inr rfl)) (pgs_cons (pg_name (i := 6) nd rfl (Or.inl rfl)) pgs_nil))) (pss_cons (ps_if (PW.pt (pw_or (pt_not (pt_val (pe_callB call_isX (by rfl) T.isi PyProof.Rows.boot_isinstance (pa_cons (pv 6) (pa_cons (pe_glob (v := V.ref cH) (by rfl) T.gH rfl) pa_nil))))) (pw_or1 (pt_not (pt_val (pe_callB call_isX (by rfl) T.isi PyProof.Rows.boot_isinstance (pa_cons (pv 6) (pa_cons (pe_bltn (v := V.ty "ValueError") (by rfl) B.ve PyProof.Rows.Boot.«ValueError» rfl) pa_nil)))))))) (pss_one (ps_ret pe_bl)) pss_nil) (pss_one (ps_if (pt_cmpR (op_neA hu) (pe_call GK hr (by rfl) gK kK bK .nil pass0 (pa_cons (pv 6) pa_nil)) (pe_lc (own := [("place", 8)]) (g := gName 8) (tt := tYes) rfl nd (pi_range1 (by rfl) B.range (pa_cons pe_int pa_nil)) (blkOk_by (N := NL) (sc := defScope sLaw) (by decide +kernel)) (fun _ _ _ _ _ => (pg_name (i := 8) nd rfl (Or.inl rfl))) (fun _ _ _ _ _ => pts_nil) (fun _ _ _ _ _ => pe_cmpR (op_eqA hu) (pv 8) (pv 5) (nomark _))) (nomark _)) (pss_one (ps_ret pe_bl)) pss_nil))))))))))) (pss_one (ps_ret (pe_cmpR (op_eqA hu) (pe_lc (own := [("kind", 9)]) (g := gName 9) (tt := _) rfl nd (pi_list (pe_call GK hr (by rfl) gK kK bK .nil pass0 (pa_cons (pe_exc1 PySem.F.excBase_ValueError T.qH T.gH T.kH (by rfl) pe_str) pa_nil))) (blkOk_by (N := NL) (sc := defScope sLaw) (by decide +kernel)) (fun _ _ _ _ _ => (pg_name (i := 9) nd rfl (Or.inl rfl))) (fun _ _ _ _ _ => (pts_one (pt_A (pv 9)))) (fun _ _ _ _ _ => pv 9)) (pe_lst pa_nil) (nomark _))))), ?_⟩
    have cmp0 : ∀ {neg : Bool} {σ : L2.St} {H0 : Hp} {t1 : TE}, EvL t1 σ H0 [] → Ev (tOp (rEqA neg) t1 (tLst tNil)) σ H0 (.bl (neg ^^ true)) := fun h =>
      ev_opLL h (el_lst ea_nil (by simp)) fun p q H1 hp hq _ => eq_same (datN_nil hp) (datN_nil hq) (by decide +kernel)
    refine ⟨.ref a, rfl, a, ns.map V.int, rfl, .inl hS, _, _, rfl, _, _, rfl, _, rfl, ?b1, ?b2, for_range (lo := 0) (Pv := fun i σ' H' => ∃ y1 y2 y3 y4 y5 y6 y7 y8 y9, σ' = [some (.ref a), y1, y2, y3, y4, y5, y6, y7, y8, y9] ∧ Ex H H') ⟨none, none, none, none, none, none, none, none, none, rfl, Ex.refl H⟩ ?turn ?fin⟩
    case b1 => simp only [List.length_map]; split <;> split <;> omega
    case b2 => simp only [List.length_map]; split <;> split <;> omega
    case fin =>
      rintro σ' H' ⟨y1, y2, y3, y4, y5, y6, y7, y8, y9, rfl, e⟩
      have hc : EvL (tCall (spKinds K c) [] E0 (tCons (fun σ H Q => tC (V.str "one") σ H fun x H1 => ∀ (a : Addr), H1 a = none → Q (V.ref a) (upd H1 a (ExO (Value.ref cH) a))) tNil)) [some (.ref a), y1, y2, y3, y4, y5, y6, y7, y8, y9] H' ((List.range 18).map fun _ => V.bl false) := el_callX (ex_one ev_c) fun v H1 _ ⟨ai, ev, hi⟩ H2 e2 Q q E => ⟨ai, cH, fun _ => false, by rw [ev], isEx_mono e2 hi, T.kit.exH, T.kit.hh, fun p H3 hp e3 h3 => q p H3 hp e3 h3⟩
      dsimp only
      refine s_ret (v := .bl true) (cmp0 (neg := false) ?_) (fun H1 _ => by exact q H1)
      have z := el_lcNL (K := K) (j := 9) (vs := [9]) (t := fun σ H Q => tVar 9 σ H fun x H' => rTruA x H' Q) (te := tVar 9) (fun _ => false) (fun _ => V.non) hc (by simp) (fun x => rfl) (fun i x H1 _ hx H2 _ Q q => ⟨x, rfl, by
        have : x = V.bl false := by
          have := List.mem_of_getElem? hx
          simp at this
          exact this.2.symm
        subst this
        exact q H2 (Ex.refl _)⟩) (fun _ _ _ _ _ h => by cases h)
      rw [given_none] at z
      exact z
    case turn =>
      rintro i σ' H' hi ⟨y1, y2, y3, y4, y5, y6, y7, y8, y9, rfl, e⟩
      have hi3 : i ≤ 3 := by
        have h2 : i < _ := hi
        simp only [List.length_map] at h2
        split at h2 <;> split at h2 <;> omega
      refine ⟨.ref a, rfl, _, rfl, a, ns, i, by simp, ex_l e hS, hi3, fun p o hp ho => ?_⟩
      refine ⟨_, rfl, by decide, by decide, for_range (lo := 0) (n := 4) (Pv := fun j σ2 H2 => ∃ o z1 z3 z4 z5 z6 z7 z8 z9, σ2 = [some (.ref a), z1, some (.ref p), z3, z4, z5, z6, z7, z8, z9] ∧ H2 p = some o ∧ Hat o ∧ Ex H' H2) ⟨o, _, _, _, _, _, _, _, _, rfl, upd_same, ho, Ex.new hp⟩ ?_ ?_⟩
      rotate_left
      · rintro σ2 H2 ⟨o2, z1, z3, z4, z5, z6, z7, z8, z9, rfl, _, _, e2⟩
        exact ⟨_, _, _, _, _, _, _, _, _, rfl, e.trans e2⟩
      rintro j σ2 H2 hj ⟨o2, z1, z3, z4, z5, z6, z7, z8, z9, rfl, hp2, ho2, e2⟩
      refine ⟨.ref p, rfl, 7, rfl, 10, 40, rfl, rfl, cp4, by decide, fun q1 h1 => ⟨by decide, fun q2 h2 => ⟨by decide, fun q3 h3 => ⟨by decide, fun q4 h4 q5 h5 => ⟨(show 11 ≤ sizeLine by decide), fun q6 h6 => ?_⟩⟩⟩⟩⟩
      have F1 : Ex H2 (upd H2 q1 (.tup [])) := Ex.new h1
      have F2 := F1.trans (Ex.new (o := HO.tup [V.int 1, V.str "two"]) h2)
      have F3 := F2.trans (Ex.new (o := HO.tup [V.str "bare", V.int 3]) h3)
      have F4 := F3.trans (Ex.new (o := HO.lst [V.int 1, V.int 2]) h4)
      have F5 := F4.trans (Ex.new (o := HO.dK []) h5)
      have n1 : q1 ≠ p := (ne_of_none hp2 h1).symm
      have n2 : q2 ≠ p := (ne_of_none (F1 _ _ hp2) h2).symm
      have n3 : q3 ≠ p := (ne_of_none (F2 _ _ hp2) h3).symm
      have n4 : q4 ≠ p := (ne_of_none (F3 _ _ hp2) h4).symm
      have n5 : q5 ≠ p := (ne_of_none (F4 _ _ hp2) h5).symm
      have n6 : q6 ≠ p := (ne_of_none (F5 _ _ hp2) h6).symm
      refine ⟨p, q6, o2, _, rfl, by rw [upd_ne n6.symm]; exact F5 _ _ hp2, ho2, upd_same, n6.symm, (show 0 < 11 by decide), (show 11 < 1000 by decide), fun v o' hv ho' => ?_⟩
      -- the heap behind the draw
      have F6 : ∀ o, Ex H2 (upd _ q6 o) := fun o => F5.trans (Ex.new (o := o) h6)
      generalize hA : upd (upd _ q6 _) p o' = A7
      have at7 : ∀ {b : Addr} {u : HO}, b ≠ p → upd (upd (upd (upd (upd H2 q1 (.tup [])) q2 (.tup [V.int 1, V.str "two"])) q3 (.tup [V.str "bare", V.int 3])) q4 (.lst [V.int 1, V.int 2])) q5 (.dK []) b = some u → A7 b = some u := by
        intro b u hb hu
        rw [← hA, upd_ne hb, upd_ne (ne_of_none hu h6)]
        exact hu
      have X2 := Ex.new (o := HO.tup [V.int 1, V.str "two"]) h2
      have X3 := Ex.new (o := HO.tup [V.str "bare", V.int 3]) h3
      have X4 := Ex.new (o := HO.lst [V.int 1, V.int 2]) h4
      have X5 := Ex.new (o := HO.dK []) h5
      have a5 : A7 q5 = some (.dK []) := at7 n5 upd_same
      have a4 : A7 q4 = some (.lst [V.int 1, V.int 2]) := at7 n4 (X5 _ _ upd_same)
      have a3 : A7 q3 = some (.tup [V.str "bare", V.int 3]) := at7 n3 ((X4.trans X5) _ _ upd_same)
      have a2 : A7 q2 = some (.tup [V.int 1, V.str "two"]) := at7 n2 (((X3.trans X4).trans X5) _ _ upd_same)
      have a1 : A7 q1 = some (.tup []) := at7 n1 ((((X2.trans X3).trans X4).trans X5) _ _ upd_same)
      have ap : A7 p = some o' := by rw [← hA]; exact upd_same
      have e7 : Ex H' A7 := by rw [← hA]; exact Ex.mut (e2.trans (F6 _)) hp
      have sw : Shw K A7 v := by
        simp only [List.mem_cons, List.mem_nil_iff, or_false] at hv
        rcases hv with rfl | rfl | rfl | rfl | rfl | rfl | rfl | rfl | rfl | rfl | rfl
        · exact ⟨_, .of .non, by decide, by decide, by decide⟩
        · exact ⟨_, .of (.int 0), by decide +kernel, by decide +kernel, by decide +kernel⟩
        · exact ⟨_, .of (.int (-7)), by decide +kernel, by decide +kernel, by decide +kernel⟩
        · exact ⟨_, .of (.int (10 ^ 40)), by decide +kernel, by decide +kernel, by decide +kernel⟩
        · exact ⟨_, .of (.str "word"), by decide +kernel, by decide +kernel, by decide +kernel⟩
        · exact ⟨_, .of (.tup (.inl (.inl a1)) .nil), by decide +kernel, by decide +kernel, by decide +kernel⟩
        · exact ⟨_, .of (.tup (.inl (.inl a2)) (.cons (.int 1) (.cons (.str "two") .nil))), by decide +kernel, by decide +kernel, by decide +kernel⟩
        · exact ⟨_, .of (.bl true), by decide +kernel, by decide +kernel, by decide +kernel⟩
        · exact ⟨_, .of (.tup (.inl (.inl a3)) (.cons (.str "bare") (.cons (.int 3) .nil))), by decide +kernel, by decide +kernel, by decide +kernel⟩
        · exact ⟨_, .of (.lst (.inl (.inl a4)) (.cons (.int 1) (.cons (.int 2) .nil))), by decide +kernel, by decide +kernel, by decide +kernel⟩
        · exact ⟨_, .dict a5, by decide +kernel, by decide +kernel, by decide +kernel⟩
      clear a1 a2 a3 a4 a5 X2 X3 X4 X5 at7 hA F6 F5 F4 F3 F2 F1 n1 n2 n3 n4 n5 n6 h1 h2 h3 h4 h5 h6 hv
      dsimp only [List.set]
      -- [one for one in _law_kept(value) if repr(one) != repr(value)] != []
      refine s_if (b := false) (et_test (cmp0 (neg := true) ?kept)) (fun z => by cases z) (fun _ H8 e8 => ?_)
      case kept =>
        have hc : EvL (tCall spKept [] E0 (tCons (tVar 4) tNil)) [some (.ref a), z1, some (.ref p), some (.int (0 + (j : Nat))), some v, z5, z6, z7, z8, z9] A7 [v, v, v, v, v] :=
          el_call (ea_cons (ev_var rfl) ea_nil) fun H1 e1 Q q E => ⟨v, rfl, fun p H2 hp e2 h2 => q p H2 hp e2 h2⟩
        have z := el_lcNL (K := K) (j := 7) (vs := [7]) (t := tTest (tOp (rEqA true) (tCB (rRepr K) (tCons (tVar 7) tNil)) (tCB (rRepr K) (tCons (tVar 4) tNil)))) (te := tVar 7) (fun _ => false) (fun _ => V.non) hc (by simp) (fun x => rfl) (fun i x H1 e1 hx => by
          have : x = v := by
            have := List.mem_of_getElem? hx
            simpa using this
          subst this
          obtain ⟨t, rc⟩ := rc_repr (shw_mono e1 sw)
          exact et_test (ev_op (ev_cb (ea_cons (ev_var rfl) ea_nil) rc) (ev_cb (ea_cons (ev_var rfl) ea_nil) rc) rv_str)) (fun _ _ _ _ _ h => by cases h)
        rw [given_none] at z
        exact z
      -- for at, error in enumerate(_law_errors(value))
      refine ⟨v, rfl, v, rfl, fun p1 xs1 H9 hp1 e9 h9 z9 => ⟨p1, xs1, rfl, .inl (.inl h9), for_enum (xs := xs1) (Pv := fun i σ4 H10 => ∃ w5 w6 w7 w8 w9, σ4 = [some (.ref a), z1, some (.ref p), some (.int (0 + (j : Nat))), some v, w5, w6, w7, w8, w9] ∧ Ex H9 H10) ⟨_, _, _, _, _, rfl, Ex.refl _⟩ (fun i σ4 H10 _ ⟨_, _, _, _, _, _, e10⟩ => ex_l e10 (.inl (.inl h9))) ?_ ?_⟩⟩
      rotate_left
      · rintro σ4 H10 ⟨w5, w6, w7, w8, w9, rfl, e10⟩
        exact ⟨o', _, _, _, _, _, _, _, _, rfl, e10 _ _ (e9 _ _ (e8 _ _ ap)), ho', ((e7.trans e8).trans e9).trans e10⟩
      rintro i x σ4 H10 U hx ⟨w5, w6, w7, w8, w9, rfl, e10⟩ hU
      refine g_two upd_same ?_
      have e11 : Ex H10 (upd H10 U (.tup [.int (i : Nat), x])) := Ex.new hU
      have hlen : xs1.length = 18 := by rw [exs_len z9]; rfl
      have hi18 : i < 18 := by rw [← hlen]; exact (List.getElem?_eq_some_iff.mp hx).1
      obtain ⟨ai, rfl, hxi⟩ : ∃ ai, x = V.ref ai ∧ IsEx H9 ai (c i) := by
        obtain ⟨D, hD, r⟩ := paired_get z9 hx
        have : (csAll c)[i]? = some (c i) := by simp [csAll, hi18]
        rw [this] at hD
        cases hD
        exact r
      have hxj := isEx_mono (e10.trans e11) hxi
      dsimp only [List.set]
      refine s_if (b := false) (et_or (a := false) (b := false) (et_is (et_not (et_B (ev_isX (ev_var rfl) ev_c hxj (T.kit.ex i hi18) relRef (T.kit.up i hi18)))) rfl) (fun _ => et_is (et_not (et_B (ev_isX (ev_var rfl) ev_c hxj (T.kit.ex i hi18) relTy (T.kit.ve i hi18)))) rfl)) (fun z => by cases z) (fun _ H12 e12 => ?_)
      unfold tNext; dsimp only
      refine s_if (b := false) (et_test ?kinds) (fun z => by cases z) (fun _ H13 e13 => ?_)
      case kinds =>
        have hk : EvL (tCall (spKinds K c) [] E0 (tCons (tVar 6) tNil)) [some (.ref a), z1, some (.ref p), some (.int (0 + (j : Nat))), some v, some (.int (i : Nat)), some (.ref ai), w7, w8, w9] H12 (((List.range 18).map fun m => decide (i = m)).map V.bl) :=
          el_call (ea_cons (ev_var rfl) ea_nil) fun H1 e1 Q q E => ⟨ai, c i, fun m => decide (i = m), rfl, isEx_mono (e12.trans e1) hxj, T.kit.ex i hi18, fun m hm => T.kit.ij i m hi18 hm, fun p2 H2 hp2 e2 h2 => q p2 H2 hp2 e2 (by rw [h2, List.map_map]; rfl)⟩
        have z := el_lcR1 (j := 8) (vs := [8]) (t := tYes) (te := tOp (rEqA false) (tVar 8) (tVar 5)) (σ := [some (.ref a), z1, some (.ref p), some (.int (0 + (j : Nat))), some v, some (.int (i : Nat)), some (.ref ai), w7, w8, w9]) (H := H12) (n := 18) (fun _ => true) (fun m => V.bl (decide ((m : Int) = (i : Int)))) (ea_cons ev_c ea_nil) (by omega) (fun x => rfl) (fun m H1 _ _ H2 _ Q q => q H2 (Ex.refl _)) (fun m H1 _ _ _ => ev_op (ev_var rfl) (ev_var rfl) rv_int)
        rw [given_all] at z
        have eq : (List.range (18 : Int).toNat).map (fun m : Nat => V.bl (decide ((m : Int) = (i : Int)))) = ((List.range 18).map fun m => decide (i = m)).map V.bl := by
          rw [List.map_map]
          refine List.map_congr_left fun m _ => ?_
          show V.bl _ = V.bl _
          congr 1
          exact decide_eq_decide.mpr (by omega)
        rw [eq] at z
        refine ev_opLL hk z fun p2 q2 H14 hp2 hq2 _ => ?_
        have sh : SeqAt.shaped (.list (((List.range 18).map fun m => decide (i = m)).map PyData.bool)) = true := by
          rw [List.map_map]
          exact shaped_bools i hi18
        exact eq_same (neg := true) (datN_bools hp2) (datN_bools hq2) sh
      dsimp only [tNext]
      exact ⟨_, _, _, _, _, rfl, ((e10.trans e11).trans e12).trans e13⟩
end
end K00
end
section
set_option Elab.async false
set_option linter.all false
set_option maxRecDepth 100000
set_option maxHeartbeats 1000000
open PySem PySem.Spec PyProof.Rows L2 HbE HbA Evl HbX
namespace K00
theorem all_mk {l : PySem.W.OpenLaw} {w : World} {K : PySem.W.Frag} {h : Heap} {mg : Str → Option Value} {fa : Addr} (X : K.In h) (G : h.Ns mainGlobals mg) (hfa : mg "law" = some (.ref fa))
    {a0 a1 a2 a3 a4 a5 a6 a7 a8 a9 a10 a11 a12 a13 a14 a15 a16 a17 aH : Addr}
    {nm13 qn13 : Str} {N13 : Addr} {bs13 : List Value} {sn13 : List Str} {sub13 : List Value} {ab13 : Bool} {col13 : Option Bool} {dd13 : Option Addr} {m013 m113 m213 m313 m513 : Option Value}
    {f13 : Addr} {ocI13 : Value} {odI13 anI13 : Option Addr} {slI13 : Array (Option Value)} {kVI13 dcI13 pmI13 cdI13 ctI13 : Value}
    {nm14 qn14 : Str} {N14 : Addr} {bs14 : List Value} {sn14 : List Str} {sub14 : List Value} {ab14 : Bool} {col14 : Option Bool} {dd14 : Option Addr} {m014 m114 m214 m314 m514 : Option Value}
    {f14 : Addr} {ocI14 : Value} {odI14 anI14 : Option Addr} {slI14 : Array (Option Value)} {kVI14 dcI14 pmI14 cdI14 ctI14 : Value}
    {nm15 qn15 : Str} {N15 : Addr} {bs15 : List Value} {sn15 : List Str} {sub15 : List Value} {ab15 : Bool} {col15 : Option Bool} {dd15 : Option Addr} {m015 m115 m215 m315 m515 : Option Value}
    {f15 : Addr} {ocI15 : Value} {odI15 anI15 : Option Addr} {slI15 : Array (Option Value)} {kVI15 dcI15 pmI15 cdI15 ctI15 : Value}
    {nm16 qn16 : Str} {N16 : Addr} {bs16 : List Value} {sn16 : List Str} {sub16 : List Value} {ab16 : Bool} {col16 : Option Bool} {dd16 : Option Addr} {m016 m116 m216 m316 m516 : Option Value}
    {f16 : Addr} {ocI16 : Value} {odI16 anI16 : Option Addr} {slI16 : Array (Option Value)} {kVI16 dcI16 pmI16 cdI16 ctI16 : Value}
    {nm17 qn17 : Str} {N17 : Addr} {bs17 : List Value} {sn17 : List Str} {sub17 : List Value} {ab17 : Bool} {col17 : Option Bool} {dd17 : Option Addr} {m017 m117 m217 m317 m517 : Option Value}
    {f17 : Addr} {ocI17 : Value} {odI17 anI17 : Option Addr} {slI17 : Array (Option Value)} {kVI17 dcI17 pmI17 cdI17 ctI17 : Value}
    {fH : Addr} {ocH : Value} {odH anH : Option Addr} {slH : Array (Option Value)} {kVH dcH pmH cdH ctH : Value}
    {fU : Addr} {ocU : Value} {odU anU : Option Addr} {slU : Array (Option Value)} {kVU dcU pmU cdU ctU : Value}
    {fO : Addr} {ocO : Value} {odO anO : Option Addr} {slO : Array (Option Value)} {kVO dcO pmO cdO ctO : Value}
    {fK : Addr} {ocK : Value} {odK anK : Option Addr} {slK : Array (Option Value)} {kVK dcK pmK cdK ctK : Value}
    {fE : Addr} {ocE : Value} {odE anE : Option Addr} {slE : Array (Option Value)} {kVE dcE pmE cdE ctE : Value}
    {fP : Addr} {ocP : Value} {odP anP : Option Addr} {slP : Array (Option Value)} {kVP dcP pmP cdP ctP : Value}
    {fL : Addr} {ocL : Value} {odL anL : Option Addr} {slL : Array (Option Value)} {kVL dcL pmL cdL ctL : Value}
    (g0 : PySem.W.nsIn K mainGlobals "InvalidFraction" = some (some (.ref a0)))
    (g1 : PySem.W.nsIn K mainGlobals "InvalidRow" = some (some (.ref a1)))
    (g2 : PySem.W.nsIn K mainGlobals "InvalidTruth" = some (some (.ref a2)))
    (g3 : PySem.W.nsIn K mainGlobals "InvalidFamily" = some (some (.ref a3)))
    (g4 : PySem.W.nsIn K mainGlobals "InvalidMeasure" = some (some (.ref a4)))
    (g5 : PySem.W.nsIn K mainGlobals "InvalidMix" = some (some (.ref a5)))
    (g6 : PySem.W.nsIn K mainGlobals "InvalidDraw" = some (some (.ref a6)))
    (g7 : PySem.W.nsIn K mainGlobals "InvalidWord" = some (some (.ref a7)))
    (g8 : PySem.W.nsIn K mainGlobals "InvalidDesign" = some (some (.ref a8)))
    (g9 : PySem.W.nsIn K mainGlobals "InvalidAdvice" = some (some (.ref a9)))
    (g10 : PySem.W.nsIn K mainGlobals "InvalidMaps" = some (some (.ref a10)))
    (g11 : PySem.W.nsIn K mainGlobals "InvalidClaim" = some (some (.ref a11)))
    (g12 : PySem.W.nsIn K mainGlobals "InvalidOperation" = some (some (.ref a12)))
    (g13 : PySem.W.nsIn K mainGlobals "InvalidNumber" = some (some (.ref a13)))
    (g14 : PySem.W.nsIn K mainGlobals "UnknownName" = some (some (.ref a14)))
    (g15 : PySem.W.nsIn K mainGlobals "TooMany" = some (some (.ref a15)))
    (g16 : PySem.W.nsIn K mainGlobals "Refused" = some (some (.ref a16)))
    (g17 : PySem.W.nsIn K mainGlobals "ParseError" = some (some (.ref a17)))
    (gH : PySem.W.nsIn K mainGlobals "HardError" = some (some (.ref aH)))
    (kit : HbX.kitAll K [a0, a1, a2, a3, a4, a5, a6, a7, a8, a9, a10, a11, a12, a13, a14, a15, a16, a17] aH = true)
    (q0 : PySem.W.excIn K a0 veM "ValueError.__new__" = true)
    (k0 : PySem.W.keepIn K (.ref a0) = true)
    (q1 : PySem.W.excIn K a1 veM "ValueError.__new__" = true)
    (k1 : PySem.W.keepIn K (.ref a1) = true)
    (q2 : PySem.W.excIn K a2 veM "ValueError.__new__" = true)
    (k2 : PySem.W.keepIn K (.ref a2) = true)
    (q3 : PySem.W.excIn K a3 veM "ValueError.__new__" = true)
    (k3 : PySem.W.keepIn K (.ref a3) = true)
    (q4 : PySem.W.excIn K a4 veM "ValueError.__new__" = true)
    (k4 : PySem.W.keepIn K (.ref a4) = true)
    (q5 : PySem.W.excIn K a5 veM "ValueError.__new__" = true)
    (k5 : PySem.W.keepIn K (.ref a5) = true)
    (q6 : PySem.W.excIn K a6 veM "ValueError.__new__" = true)
    (k6 : PySem.W.keepIn K (.ref a6) = true)
    (q7 : PySem.W.excIn K a7 veM "ValueError.__new__" = true)
    (k7 : PySem.W.keepIn K (.ref a7) = true)
    (q8 : PySem.W.excIn K a8 veM "ValueError.__new__" = true)
    (k8 : PySem.W.keepIn K (.ref a8) = true)
    (q9 : PySem.W.excIn K a9 veM "ValueError.__new__" = true)
    (k9 : PySem.W.keepIn K (.ref a9) = true)
    (q10 : PySem.W.excIn K a10 veM "ValueError.__new__" = true)
    (k10 : PySem.W.keepIn K (.ref a10) = true)
    (q11 : PySem.W.excIn K a11 veM "ValueError.__new__" = true)
    (k11 : PySem.W.keepIn K (.ref a11) = true)
    (q12 : PySem.W.excIn K a12 veM "ValueError.__new__" = true)
    (k12 : PySem.W.keepIn K (.ref a12) = true)
    (qH : PySem.W.excIn K aH veM "ValueError.__new__" = true)
    (kH : PySem.W.keepIn K (.ref aH) = true)
    (x13 : K.lookup a13 = some (excClassObj nm13 qn13 a13 N13 bs13 [.ref aH, .type "ValueError", .type "Exception", .type "BaseException", .type "object"] true sn13 sub13 ab13 col13 dd13 m013 m113 m213 m313 m513 "ValueError.__new__"))
    (sa13 : PySem.W.findIn K (.ref a13) "__setattr__" = some (some (.builtin "object.__setattr__")))
    (ex13 : PySem.W.subIn K (.ref a13) (.type "BaseException") = some true)
    (ty13 : PySem.W.typeIn K (.ref a13) = some (.type "type"))
    (k13 : PySem.W.keepIn K (.ref a13) = true)
    (ga13 : PySem.W.findIn K (.ref a13) "__getattribute__" = some (some (.builtin "BaseException.__getattribute__")))
    (gg13 : PySem.W.findIn K (.ref a13) "__getattr__" = some none)
    (hd13 : PySem.W.hasDictIn K a13 = true)
    (n13 : PySem.W.findIn K (.ref a13) "given" = some none)
    (in13 : PySem.W.findIn K (.ref a13) "__init__" = some (some (.ref f13)))
    (t13 : PySem.W.typeIn K (.ref f13) = some (.type "function"))
    (l13 : K.lookup f13 = some ⟨ocI13, odI13, .func (PySem.W.fnOf "__init__" "InvalidNumber.__init__" (defArgs (sIni 15)) (defBody (sIni 15)) (defScope (sIni 15)) .none kVI13 dcI13 pmI13 anI13 cdI13 ctI13), slI13⟩)
    (c13 : PySem.W.codeIn K cdI13 "InvalidNumber.__init__" = true)
    (kf13 : PySem.W.keepIn K (.ref f13) = true)
    (x14 : K.lookup a14 = some (excClassObj nm14 qn14 a14 N14 bs14 [.ref aH, .type "ValueError", .type "Exception", .type "BaseException", .type "object"] true sn14 sub14 ab14 col14 dd14 m014 m114 m214 m314 m514 "ValueError.__new__"))
    (sa14 : PySem.W.findIn K (.ref a14) "__setattr__" = some (some (.builtin "object.__setattr__")))
    (ex14 : PySem.W.subIn K (.ref a14) (.type "BaseException") = some true)
    (ty14 : PySem.W.typeIn K (.ref a14) = some (.type "type"))
    (k14 : PySem.W.keepIn K (.ref a14) = true)
    (ga14 : PySem.W.findIn K (.ref a14) "__getattribute__" = some (some (.builtin "BaseException.__getattribute__")))
    (gg14 : PySem.W.findIn K (.ref a14) "__getattr__" = some none)
    (hd14 : PySem.W.hasDictIn K a14 = true)
    (n14 : PySem.W.findIn K (.ref a14) "wanted" = some none)
    (in14 : PySem.W.findIn K (.ref a14) "__init__" = some (some (.ref f14)))
    (t14 : PySem.W.typeIn K (.ref f14) = some (.type "function"))
    (l14 : K.lookup f14 = some ⟨ocI14, odI14, .func (PySem.W.fnOf "__init__" "UnknownName.__init__" (defArgs (sIni 16)) (defBody (sIni 16)) (defScope (sIni 16)) .none kVI14 dcI14 pmI14 anI14 cdI14 ctI14), slI14⟩)
    (c14 : PySem.W.codeIn K cdI14 "UnknownName.__init__" = true)
    (kf14 : PySem.W.keepIn K (.ref f14) = true)
    (x15 : K.lookup a15 = some (excClassObj nm15 qn15 a15 N15 bs15 [.ref aH, .type "ValueError", .type "Exception", .type "BaseException", .type "object"] true sn15 sub15 ab15 col15 dd15 m015 m115 m215 m315 m515 "ValueError.__new__"))
    (sa15 : PySem.W.findIn K (.ref a15) "__setattr__" = some (some (.builtin "object.__setattr__")))
    (ex15 : PySem.W.subIn K (.ref a15) (.type "BaseException") = some true)
    (ty15 : PySem.W.typeIn K (.ref a15) = some (.type "type"))
    (k15 : PySem.W.keepIn K (.ref a15) = true)
    (ga15 : PySem.W.findIn K (.ref a15) "__getattribute__" = some (some (.builtin "BaseException.__getattribute__")))
    (gg15 : PySem.W.findIn K (.ref a15) "__getattr__" = some none)
    (hd15 : PySem.W.hasDictIn K a15 = true)
    (n15 : PySem.W.findIn K (.ref a15) "most" = some none)
    (in15 : PySem.W.findIn K (.ref a15) "__init__" = some (some (.ref f15)))
    (t15 : PySem.W.typeIn K (.ref f15) = some (.type "function"))
    (l15 : K.lookup f15 = some ⟨ocI15, odI15, .func (PySem.W.fnOf "__init__" "TooMany.__init__" (defArgs (sIni 17)) (defBody (sIni 17)) (defScope (sIni 17)) .none kVI15 dcI15 pmI15 anI15 cdI15 ctI15), slI15⟩)
    (c15 : PySem.W.codeIn K cdI15 "TooMany.__init__" = true)
    (kf15 : PySem.W.keepIn K (.ref f15) = true)
    (x16 : K.lookup a16 = some (excClassObj nm16 qn16 a16 N16 bs16 [.ref aH, .type "ValueError", .type "Exception", .type "BaseException", .type "object"] true sn16 sub16 ab16 col16 dd16 m016 m116 m216 m316 m516 "ValueError.__new__"))
    (sa16 : PySem.W.findIn K (.ref a16) "__setattr__" = some (some (.builtin "object.__setattr__")))
    (ex16 : PySem.W.subIn K (.ref a16) (.type "BaseException") = some true)
    (ty16 : PySem.W.typeIn K (.ref a16) = some (.type "type"))
    (k16 : PySem.W.keepIn K (.ref a16) = true)
    (ga16 : PySem.W.findIn K (.ref a16) "__getattribute__" = some (some (.builtin "BaseException.__getattribute__")))
    (gg16 : PySem.W.findIn K (.ref a16) "__getattr__" = some none)
    (hd16 : PySem.W.hasDictIn K a16 = true)
    (n16 : PySem.W.findIn K (.ref a16) "reason" = some none)
    (in16 : PySem.W.findIn K (.ref a16) "__init__" = some (some (.ref f16)))
    (t16 : PySem.W.typeIn K (.ref f16) = some (.type "function"))
    (l16 : K.lookup f16 = some ⟨ocI16, odI16, .func (PySem.W.fnOf "__init__" "Refused.__init__" (defArgs (sIni 18)) (defBody (sIni 18)) (defScope (sIni 18)) .none kVI16 dcI16 pmI16 anI16 cdI16 ctI16), slI16⟩)
    (c16 : PySem.W.codeIn K cdI16 "Refused.__init__" = true)
    (kf16 : PySem.W.keepIn K (.ref f16) = true)
    (x17 : K.lookup a17 = some (excClassObj nm17 qn17 a17 N17 bs17 [.ref aH, .type "ValueError", .type "Exception", .type "BaseException", .type "object"] true sn17 sub17 ab17 col17 dd17 m017 m117 m217 m317 m517 "ValueError.__new__"))
    (sa17 : PySem.W.findIn K (.ref a17) "__setattr__" = some (some (.builtin "object.__setattr__")))
    (ex17 : PySem.W.subIn K (.ref a17) (.type "BaseException") = some true)
    (ty17 : PySem.W.typeIn K (.ref a17) = some (.type "type"))
    (k17 : PySem.W.keepIn K (.ref a17) = true)
    (ga17 : PySem.W.findIn K (.ref a17) "__getattribute__" = some (some (.builtin "BaseException.__getattribute__")))
    (gg17 : PySem.W.findIn K (.ref a17) "__getattr__" = some none)
    (hd17 : PySem.W.hasDictIn K a17 = true)
    (n17 : PySem.W.findIn K (.ref a17) "at" = some none)
    (in17 : PySem.W.findIn K (.ref a17) "__init__" = some (some (.ref f17)))
    (t17 : PySem.W.typeIn K (.ref f17) = some (.type "function"))
    (l17 : K.lookup f17 = some ⟨ocI17, odI17, .func (PySem.W.fnOf "__init__" "ParseError.__init__" (defArgs (sIni 19)) (defBody (sIni 19)) (defScope (sIni 19)) .none kVI17 dcI17 pmI17 anI17 cdI17 ctI17), slI17⟩)
    (c17 : PySem.W.codeIn K cdI17 "ParseError.__init__" = true)
    (kf17 : PySem.W.keepIn K (.ref f17) = true)
    (hs : PySem.W.specialIn K (.ref aH) "__getattribute__" = some (some (.builtin "type.__getattribute__")))
    (hr : PySem.W.readsIn K aH (.type "type") = true)
    (hf : PySem.W.findCls K (.ref aH) (.type "type") "__init__" = some (.val (.builtin "ValueError.__init__")))
    (gHf : PySem.W.nsIn K mainGlobals "_law_fr_hat" = some (some (.ref fH)))
    (lH : K.lookup fH = some ⟨ocH, odH, .func (PySem.W.fnOf "_law_fr_hat" "_law_fr_hat" (defArgs sHat) (defBody sHat) (defScope sHat) .none kVH dcH pmH anH cdH ctH), slH⟩)
    (cH : PySem.W.codeIn K cdH "_law_fr_hat" = true)
    (kfH : PySem.W.keepIn K (.ref fH) = true)
    (gUf : PySem.W.nsIn K mainGlobals "_law_fr_up" = some (some (.ref fU)))
    (lU : K.lookup fU = some ⟨ocU, odU, .func (PySem.W.fnOf "_law_fr_up" "_law_fr_up" (defArgs sUp) (defBody sUp) (defScope sUp) .none kVU dcU pmU anU cdU ctU), slU⟩)
    (cU : PySem.W.codeIn K cdU "_law_fr_up" = true)
    (kfU : PySem.W.keepIn K (.ref fU) = true)
    (gOf : PySem.W.nsIn K mainGlobals "_law_fr_of" = some (some (.ref fO)))
    (lO : K.lookup fO = some ⟨ocO, odO, .func (PySem.W.fnOf "_law_fr_of" "_law_fr_of" (defArgs sOf) (defBody sOf) (defScope sOf) .none kVO dcO pmO anO cdO ctO), slO⟩)
    (cO : PySem.W.codeIn K cdO "_law_fr_of" = true)
    (kfO : PySem.W.keepIn K (.ref fO) = true)
    (gKf : PySem.W.nsIn K mainGlobals "_law_kinds" = some (some (.ref fK)))
    (lK : K.lookup fK = some ⟨ocK, odK, .func (PySem.W.fnOf "_law_kinds" "_law_kinds" (defArgs sKinds) (defBody sKinds) (defScope sKinds) .none kVK dcK pmK anK cdK ctK), slK⟩)
    (cK : PySem.W.codeIn K cdK "_law_kinds" = true)
    (kfK : PySem.W.keepIn K (.ref fK) = true)
    (gEf : PySem.W.nsIn K mainGlobals "_law_errors" = some (some (.ref fE)))
    (lE : K.lookup fE = some ⟨ocE, odE, .func (PySem.W.fnOf "_law_errors" "_law_errors" (defArgs sErrs) (defBody sErrs) (defScope sErrs) .none kVE dcE pmE anE cdE ctE), slE⟩)
    (cE : PySem.W.codeIn K cdE "_law_errors" = true)
    (kfE : PySem.W.keepIn K (.ref fE) = true)
    (gPf : PySem.W.nsIn K mainGlobals "_law_kept" = some (some (.ref fP)))
    (lP : K.lookup fP = some ⟨ocP, odP, .func (PySem.W.fnOf "_law_kept" "_law_kept" (defArgs sKept) (defBody sKept) (defScope sKept) .none kVP dcP pmP anP cdP ctP), slP⟩)
    (cP : PySem.W.codeIn K cdP "_law_kept" = true)
    (kfP : PySem.W.keepIn K (.ref fP) = true)
    (gLf : PySem.W.nsIn K mainGlobals "law" = some (some (.ref fL)))
    (lL : K.lookup fL = some ⟨ocL, odL, .func (PySem.W.fnOf "law" "law" (defArgs sLaw) (defBody sLaw) (defScope sLaw) .none kVL dcL pmL anL cdL ctL), slL⟩)
    (cL : PySem.W.codeIn K cdL "law" = true)
    (kfL : PySem.W.keepIn K (.ref fL) = true)
    (z_len : PySem.W.nsIn K mainGlobals "len" = some none)
    (z_int : PySem.W.nsIn K mainGlobals "int" = some none)
    (z_abs : PySem.W.nsIn K mainGlobals "abs" = some none)
    (z_max : PySem.W.nsIn K mainGlobals "max" = some none)
    (z_min : PySem.W.nsIn K mainGlobals "min" = some none)
    (z_range : PySem.W.nsIn K mainGlobals "range" = some none)
    (z_repr : PySem.W.nsIn K mainGlobals "repr" = some none)
    (z_enumerate : PySem.W.nsIn K mainGlobals "enumerate" = some none)
    (z_isinstance : PySem.W.nsIn K mainGlobals "isinstance" = some none)
    (z_ValueError : PySem.W.nsIn K mainGlobals "ValueError" = some none) :
    ∃ fd : FuncData, (∀ (s : Shared) (v : Value), BindsTo s fd ⟨[v], []⟩ [("script", v)]) ∧ ∀ base : Heap, K.In base → base.Ns mainGlobals mg → L2.FnG l.prog w K mg base CX0 4 fa fd ["script"] (spLaw K) := by
  have e := hfa.symm.trans (PySem.W.mg_of X G gLf)
  cases e
  have T : Txt K mg (fun i => ([a0, a1, a2, a3, a4, a5, a6, a7, a8, a9, a10, a11, a12, a13, a14, a15, a16, a17] : List Addr).getD i 0) aH :=
    { kit := HbX.kit_ok kit, isi := PySem.W.mg_none_of X G z_isinstance, gH := PySem.W.mg_of X G gH, qH := qH, kH := kH, g0 := PySem.W.mg_of X G g0, g1 := PySem.W.mg_of X G g1, g2 := PySem.W.mg_of X G g2, g3 := PySem.W.mg_of X G g3, g4 := PySem.W.mg_of X G g4, g5 := PySem.W.mg_of X G g5, g6 := PySem.W.mg_of X G g6, g7 := PySem.W.mg_of X G g7, g8 := PySem.W.mg_of X G g8, g9 := PySem.W.mg_of X G g9, g10 := PySem.W.mg_of X G g10, g11 := PySem.W.mg_of X G g11, g12 := PySem.W.mg_of X G g12, g13 := PySem.W.mg_of X G g13, g14 := PySem.W.mg_of X G g14, g15 := PySem.W.mg_of X G g15, g16 := PySem.W.mg_of X G g16, g17 := PySem.W.mg_of X G g17, q0 := q0, k0 := k0, q1 := q1, k1 := k1, q2 := q2, k2 := k2, q3 := q3, k3 := k3, q4 := q4, k4 := k4, q5 := q5, k5 := k5, q6 := q6, k6 := k6, q7 := q7, k7 := k7, q8 := q8, k8 := k8, q9 := q9, k9 := k9, q10 := q10, k10 := k10, q11 := q11, k11 := k11, q12 := q12, k12 := k12, o13 := ⟨⟨_, _, _, _, _, _, _, _, _, _, _, _, _, _, _, x13, by rfl⟩, sa13, ex13, ty13, k13⟩, x13 := ⟨ga13, gg13, ex13, hd13⟩, n13 := n13, o14 := ⟨⟨_, _, _, _, _, _, _, _, _, _, _, _, _, _, _, x14, by rfl⟩, sa14, ex14, ty14, k14⟩, x14 := ⟨ga14, gg14, ex14, hd14⟩, n14 := n14, o15 := ⟨⟨_, _, _, _, _, _, _, _, _, _, _, _, _, _, _, x15, by rfl⟩, sa15, ex15, ty15, k15⟩, x15 := ⟨ga15, gg15, ex15, hd15⟩, n15 := n15, o16 := ⟨⟨_, _, _, _, _, _, _, _, _, _, _, _, _, _, _, x16, by rfl⟩, sa16, ex16, ty16, k16⟩, x16 := ⟨ga16, gg16, ex16, hd16⟩, n16 := n16, o17 := ⟨⟨_, _, _, _, _, _, _, _, _, _, _, _, _, _, _, x17, by rfl⟩, sa17, ex17, ty17, k17⟩, x17 := ⟨ga17, gg17, ex17, hd17⟩, n17 := n17 }
  have HC : HardC K mg aH := ⟨PySem.W.mg_of X G gH, hs, hr, hf⟩
  have B : Bl mg := ⟨PySem.W.mg_none_of X G z_len, PySem.W.mg_none_of X G z_max, PySem.W.mg_none_of X G z_min, PySem.W.mg_none_of X G z_range, PySem.W.mg_none_of X G z_repr, PySem.W.mg_none_of X G z_enumerate, PySem.W.mg_none_of X G z_ValueError⟩
  have FH := fun_mk (st := sHat) lH cH kfH
  have bH := FH.binds (ps := ["script", "spot"]) fun _ _ _ _ _ _ us hl => match us, hl with | [_, _], _ => rfl
  have FU := fun_mk (st := sUp) lU cU kfU
  have bU := FU.binds (ps := ["hat", "total"]) fun _ _ _ _ _ _ us hl => match us, hl with | [_, _], _ => rfl
  have FO := fun_mk (st := sOf) lO cO kfO
  have bO := FO.binds (ps := ["hat", "items"]) fun _ _ _ _ _ _ us hl => match us, hl with | [_, _], _ => rfl
  have FK := fun_mk (st := sKinds) lK cK kfK
  have bK := FK.binds (ps := ["error"]) fun _ _ _ _ _ _ us hl => match us, hl with | [_], _ => rfl
  have FE := fun_mk (st := sErrs) lE cE kfE
  have bE := FE.binds (ps := ["value"]) fun _ _ _ _ _ _ us hl => match us, hl with | [_], _ => rfl
  have FP := fun_mk (st := sKept) lP cP kfP
  have bP := FP.binds (ps := ["value"]) fun _ _ _ _ _ _ us hl => match us, hl with | [_], _ => rfl
  have FL := fun_mk (st := sLaw) lL cL kfL
  have F13 := fun_mk (st := sIni 15) l13 c13 kf13
  have b13 := F13.binds (ps := ["self", "given"]) fun _ _ _ _ _ _ us hl => match us, hl with | [_, _], _ => rfl
  have F14 := fun_mk (st := sIni 16) l14 c14 kf14
  have b14 := F14.binds (ps := ["self", "wanted"]) fun _ _ _ _ _ _ us hl => match us, hl with | [_, _], _ => rfl
  have F15 := fun_mk (st := sIni 17) l15 c15 kf15
  have b15 := F15.binds (ps := ["self", "most"]) fun _ _ _ _ _ _ us hl => match us, hl with | [_, _], _ => rfl
  have F16 := fun_mk (st := sIni 18) l16 c16 kf16
  have b16 := F16.binds (ps := ["self", "reason"]) fun _ _ _ _ _ _ us hl => match us, hl with | [_, _], _ => rfl
  have F17 := fun_mk (st := sIni 19) l17 c17 kf17
  have b17 := F17.binds (ps := ["self", "at"]) fun _ _ _ _ _ _ us hl => match us, hl with | [_, _], _ => rfl
  refine ⟨PySem.W.fnOf "law" "law" (defArgs sLaw) (defBody sLaw) (defScope sLaw) .none kVL dcL pmL anL cdL ctL, fun s v => .of_eq rfl, fun base _ _ => ?_⟩
  have I13 : Ini l.prog w K mg base ((fun i => ([a0, a1, a2, a3, a4, a5, a6, a7, a8, a9, a10, a11, a12, a13, a14, a15, a16, a17] : List Addr).getD i 0) 13) "given" := ⟨⟨_, _, in13, t13, ok_ini13 F13 HC (T.o13) n13, b13⟩⟩
  have I14 : Ini l.prog w K mg base ((fun i => ([a0, a1, a2, a3, a4, a5, a6, a7, a8, a9, a10, a11, a12, a13, a14, a15, a16, a17] : List Addr).getD i 0) 14) "wanted" := ⟨⟨_, _, in14, t14, ok_ini14 F14 HC (T.o14) n14, b14⟩⟩
  have I15 : Ini l.prog w K mg base ((fun i => ([a0, a1, a2, a3, a4, a5, a6, a7, a8, a9, a10, a11, a12, a13, a14, a15, a16, a17] : List Addr).getD i 0) 15) "most" := ⟨⟨_, _, in15, t15, ok_ini15 F15 HC (T.o15) n15, b15⟩⟩
  have I16 : Ini l.prog w K mg base ((fun i => ([a0, a1, a2, a3, a4, a5, a6, a7, a8, a9, a10, a11, a12, a13, a14, a15, a16, a17] : List Addr).getD i 0) 16) "reason" := ⟨⟨_, _, in16, t16, ok_ini16 F16 HC (T.o16) n16, b16⟩⟩
  have I17 : Ini l.prog w K mg base ((fun i => ([a0, a1, a2, a3, a4, a5, a6, a7, a8, a9, a10, a11, a12, a13, a14, a15, a16, a17] : List Addr).getD i 0) 17) "at" := ⟨⟨_, _, in17, t17, ok_ini17 F17 HC (T.o17) n17, b17⟩⟩
  have zl := PySem.W.mg_none_of X G z_len
  have zi := PySem.W.mg_none_of X G z_int
  have za := PySem.W.mg_none_of X G z_abs
  have zm := PySem.W.mg_none_of X G z_max
  have GH : FnOk l.prog w K mg base CX0 3 fH _ ["script", "spot"] (spHat K) := ok_hat (k := 2) FH zi zl za zm
  have GU : FnOk l.prog w K mg base CX0 2 fU _ ["hat", "total"] spUp := ok_up (k := 1) FU zi
  have GO : FnOk l.prog w K mg base CX0 3 fO _ ["hat", "items"] spOf := ok_of (k := 1) FO zl GU (PySem.W.mg_of X G gUf) kfU bU
  have GK : FnOk l.prog w K mg base CX0 3 fK _ ["error"] (spKinds K _) := ok_kinds (k := 2) FK T
  have GE := ok_errs (k := 0) (base := base) (P := l.prog) (w := w) FE T I13 I14 I15 I16 I17
  have GP := ok_kept (k := 0) (base := base) (P := l.prog) (w := w) FP T I13 I14 I15 I16 I17
  exact ok_law FL T B GH (PySem.W.mg_of X G gHf) kfH bH GO (PySem.W.mg_of X G gOf) kfO bO GK (PySem.W.mg_of X G gKf) kfK bK GE (PySem.W.mg_of X G gEf) kfE bE GP (PySem.W.mg_of X G gPf) kfP bP
end K00
end
section
set_option Elab.async false
set_option linter.all false
set_option maxRecDepth 100000
open PySem PySem.W PyProof.Rows
set_option maxHeartbeats 0 in
theorem PySem.Challenge.cw_hardbits_k00_errors_stand_apart_holds : PySem.Challenge.rw_hardbits_k00_errors_stand_apart.Holds := by
  w_on; o_law; k_head; (case hw => w_witness2)
  k_fill
  refine L2.walk_ofG (l := PySem.Challenge.rw_hardbits_k00_errors_stand_apart) (n := 63) (k := 4) (x := "script") (sp := fun w => K00.spLaw _) rfl (by decide) rfl ⟨rfl, by decide, by decide⟩ (fun w h Y => PySem.W.kIn_of Y) ?F (fun _ _ a ns hl _ hS => ⟨a, ns, rfl, hS, hl, fun _ => rfl⟩)
  case F =>
    intro w mg fa h KX G hmg
    refine' K00.all_mk KX G hmg ?fk_g0 ?fk_g1 ?fk_g2 ?fk_g3 ?fk_g4 ?fk_g5 ?fk_g6 ?fk_g7 ?fk_g8 ?fk_g9 ?fk_g10 ?fk_g11 ?fk_g12 ?fk_g13 ?fk_g14 ?fk_g15 ?fk_g16 ?fk_g17 ?fk_gH ?fk_kit ?fk_q0 ?fk_k0 ?fk_q1 ?fk_k1 ?fk_q2 ?fk_k2 ?fk_q3 ?fk_k3 ?fk_q4 ?fk_k4 ?fk_q5 ?fk_k5 ?fk_q6 ?fk_k6 ?fk_q7 ?fk_k7 ?fk_q8 ?fk_k8 ?fk_q9 ?fk_k9 ?fk_q10 ?fk_k10 ?fk_q11 ?fk_k11 ?fk_q12 ?fk_k12 ?fk_qH ?fk_kH ?fk_x13 ?fk_sa13 ?fk_ex13 ?fk_ty13 ?fk_k13 ?fk_ga13 ?fk_gg13 ?fk_hd13 ?fk_n13 ?fk_in13 ?fk_t13 ?fk_l13 ?fk_c13 ?fk_kf13 ?fk_x14 ?fk_sa14 ?fk_ex14 ?fk_ty14 ?fk_k14 ?fk_ga14 ?fk_gg14 ?fk_hd14 ?fk_n14 ?fk_in14 ?fk_t14 ?fk_l14 ?fk_c14 ?fk_kf14 ?fk_x15 ?fk_sa15 ?fk_ex15 ?fk_ty15 ?fk_k15 ?fk_ga15 ?fk_gg15 ?fk_hd15 ?fk_n15 ?fk_in15 ?fk_t15 ?fk_l15 ?fk_c15 ?fk_kf15 ?fk_x16 ?fk_sa16 ?fk_ex16 ?fk_ty16 ?fk_k16 ?fk_ga16 ?fk_gg16 ?fk_hd16 ?fk_n16 ?fk_in16 ?fk_t16 ?fk_l16 ?fk_c16 ?fk_kf16 ?fk_x17 ?fk_sa17 ?fk_ex17 ?fk_ty17 ?fk_k17 ?fk_ga17 ?fk_gg17 ?fk_hd17 ?fk_n17 ?fk_in17 ?fk_t17 ?fk_l17 ?fk_c17 ?fk_kf17 ?fk_hs ?fk_hr ?fk_hf ?fk_gHf ?fk_lH ?fk_cH ?fk_kfH ?fk_gUf ?fk_lU ?fk_cU ?fk_kfU ?fk_gOf ?fk_lO ?fk_cO ?fk_kfO ?fk_gKf ?fk_lK ?fk_cK ?fk_kfK ?fk_gEf ?fk_lE ?fk_cE ?fk_kfE ?fk_gPf ?fk_lP ?fk_cP ?fk_kfP ?fk_gLf ?fk_lL ?fk_cL ?fk_kfL ?fk_z_len ?fk_z_int ?fk_z_abs ?fk_z_max ?fk_z_min ?fk_z_range ?fk_z_repr ?fk_z_enumerate ?fk_z_isinstance ?fk_z_ValueError
    (case fk_g0 => k_is)
    (case fk_g1 => k_is)
    (case fk_g2 => k_is)
    (case fk_g3 => k_is)
    (case fk_g4 => k_is)
    (case fk_g5 => k_is)
    (case fk_g6 => k_is)
    (case fk_g7 => k_is)
    (case fk_g8 => k_is)
    (case fk_g9 => k_is)
    (case fk_g10 => k_is)
    (case fk_g11 => k_is)
    (case fk_g12 => k_is)
    (case fk_g13 => k_is)
    (case fk_g14 => k_is)
    (case fk_g15 => k_is)
    (case fk_g16 => k_is)
    (case fk_g17 => k_is)
    (case fk_gH => k_is)
    (case fk_kit => kernel_rfl)
    (case fk_q0 => k_exc)
    (case fk_k0 => k_is)
    (case fk_q1 => k_exc)
    (case fk_k1 => k_is)
    (case fk_q2 => k_exc)
    (case fk_k2 => k_is)
    (case fk_q3 => k_exc)
    (case fk_k3 => k_is)
    (case fk_q4 => k_exc)
    (case fk_k4 => k_is)
    (case fk_q5 => k_exc)
    (case fk_k5 => k_is)
    (case fk_q6 => k_exc)
    (case fk_k6 => k_is)
    (case fk_q7 => k_exc)
    (case fk_k7 => k_is)
    (case fk_q8 => k_exc)
    (case fk_k8 => k_is)
    (case fk_q9 => k_exc)
    (case fk_k9 => k_is)
    (case fk_q10 => k_exc)
    (case fk_k10 => k_is)
    (case fk_q11 => k_exc)
    (case fk_k11 => k_is)
    (case fk_q12 => k_exc)
    (case fk_k12 => k_is)
    (case fk_qH => k_exc)
    (case fk_kH => k_is)
    (case fk_x13 => k_is)
    (case fk_sa13 => k_is)
    (case fk_ex13 => k_is)
    (case fk_ty13 => k_is)
    (case fk_k13 => k_is)
    (case fk_ga13 => k_is)
    (case fk_gg13 => k_is)
    (case fk_hd13 => k_is)
    (case fk_n13 => k_is)
    (case fk_in13 => k_is)
    (case fk_t13 => k_is)
    (case fk_l13 => k_is)
    (case fk_c13 => k_is)
    (case fk_kf13 => k_is)
    (case fk_x14 => k_is)
    (case fk_sa14 => k_is)
    (case fk_ex14 => k_is)
    (case fk_ty14 => k_is)
    (case fk_k14 => k_is)
    (case fk_ga14 => k_is)
    (case fk_gg14 => k_is)
    (case fk_hd14 => k_is)
    (case fk_n14 => k_is)
    (case fk_in14 => k_is)
    (case fk_t14 => k_is)
    (case fk_l14 => k_is)
    (case fk_c14 => k_is)
    (case fk_kf14 => k_is)
    (case fk_x15 => k_is)
    (case fk_sa15 => k_is)
    (case fk_ex15 => k_is)
    (case fk_ty15 => k_is)
    (case fk_k15 => k_is)
    (case fk_ga15 => k_is)
    (case fk_gg15 => k_is)
    (case fk_hd15 => k_is)
    (case fk_n15 => k_is)
    (case fk_in15 => k_is)
    (case fk_t15 => k_is)
    (case fk_l15 => k_is)
    (case fk_c15 => k_is)
    (case fk_kf15 => k_is)
    (case fk_x16 => k_is)
    (case fk_sa16 => k_is)
    (case fk_ex16 => k_is)
    (case fk_ty16 => k_is)
    (case fk_k16 => k_is)
    (case fk_ga16 => k_is)
    (case fk_gg16 => k_is)
    (case fk_hd16 => k_is)
    (case fk_n16 => k_is)
    (case fk_in16 => k_is)
    (case fk_t16 => k_is)
    (case fk_l16 => k_is)
    (case fk_c16 => k_is)
    (case fk_kf16 => k_is)
    (case fk_x17 => k_is)
    (case fk_sa17 => k_is)
    (case fk_ex17 => k_is)
    (case fk_ty17 => k_is)
    (case fk_k17 => k_is)
    (case fk_ga17 => k_is)
    (case fk_gg17 => k_is)
    (case fk_hd17 => k_is)
    (case fk_n17 => k_is)
    (case fk_in17 => k_is)
    (case fk_t17 => k_is)
    (case fk_l17 => k_is)
    (case fk_c17 => k_is)
    (case fk_kf17 => k_is)
    (case fk_hs => k_is)
    (case fk_hr => k_is)
    (case fk_hf => k_is)
    (case fk_gHf => k_is)
    (case fk_lH => k_is)
    (case fk_cH => k_is)
    (case fk_kfH => k_is)
    (case fk_gUf => k_is)
    (case fk_lU => k_is)
    (case fk_cU => k_is)
    (case fk_kfU => k_is)
    (case fk_gOf => k_is)
    (case fk_lO => k_is)
    (case fk_cO => k_is)
    (case fk_kfO => k_is)
    (case fk_gKf => k_is)
    (case fk_lK => k_is)
    (case fk_cK => k_is)
    (case fk_kfK => k_is)
    (case fk_gEf => k_is)
    (case fk_lE => k_is)
    (case fk_cE => k_is)
    (case fk_kfE => k_is)
    (case fk_gPf => k_is)
    (case fk_lP => k_is)
    (case fk_cP => k_is)
    (case fk_kfP => k_is)
    (case fk_gLf => k_is)
    (case fk_lL => k_is)
    (case fk_cL => k_is)
    (case fk_kfL => k_is)
    (case fk_z_len => k_is)
    (case fk_z_int => k_is)
    (case fk_z_abs => k_is)
    (case fk_z_max => k_is)
    (case fk_z_min => k_is)
    (case fk_z_range => k_is)
    (case fk_z_repr => k_is)
    (case fk_z_enumerate => k_is)
    (case fk_z_isinstance => k_is)
    (case fk_z_ValueError => k_is)
end
