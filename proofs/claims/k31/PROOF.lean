import PyProof.Rows.All
import Wide.All
import OpenK.AllK
import Wide.FinOn
import HandS.Base
import HandS.Call
import HandS.List
import HandS.Exc
import HandS.ExcOwn
import HandS.ExcInit
import HandS.ExcIs
import HandS.ExcField
import HandS.ExcValue
import HandS.IsInst
import HandS.Wide
import HandS.Comp
import HandS.Ends
import HandS.Words
import HandS.Iter
import HandS.Text
import HandS.Evl
import HandS.AnyAll
import HandS.WideBits
import HandS.Zip
import HandS.TupAny
import HandS.TupMul
import HandS.Gcd
import KE.GoesEnum
import HandS.GenList
import PyProof.GenArm
import KE.DataMinMax
import HandS.MapSum
import HandS.Style
import HandS.Deep
import KE.BitLaws
import KE.OsArith
import HandS.EndTab
import KE.KNest
import PySem.Challenge.RW_hardbits_k31_whole_draws_and_hybrids
section
set_option Elab.async false
set_option linter.all false
set_option maxRecDepth 100000
set_option maxHeartbeats 2000000
/-! Exceptions of own classes as values: made, asked for their class, their fields read. -/
namespace PySem.W
open PySem PySem.Spec PySem.Calls PyProof.Rows
section
variable {prog : Program} {w : World} {A : Around} {E : Value → Shared → Prop} {s : Shared} {K : Frag} {x D : Addr} {ox : Obj} {od : Option Obj}
theorem hb_findObj {C : Addr} {name : Str} {a g : Value} (hc : (clsIn K C).isSome = true) (ha : findIn K (.ref C) name = some (some a)) (hg : specialIn K a "__get__" = some (some g)) (ht : takesIn K a = some true) : findObj K C od name = some (.bind g a) := by
  obtain ⟨cd, hc⟩ := Option.isSome_iff_exists.mp hc
  unfold findObj
  rw [hc, Option.bind_some, ha, Option.bind_some]
  simp [hg, ht]
theorem hb_kin {Q : Option Value → Shared → Prop} (hga : findIn K (.ref D) "__getattribute__" = some (some (.builtin "BaseException.__getattribute__"))) (hgt : findIn K (.ref D) "__getattr__" = some none) (hsub : subIn K (.ref D) (.type "BaseException") = some true)
    (hdct : hasDictIn K D = true) (ha : findIn K (.ref D) "__class__" = some (some (.builtin "object.__class__")))
    (hn : specialIn K (.builtin "object.__class__") "__get__" = some (some (.builtin "getset_descriptor.__get__"))) (htk : takesIn K (.builtin "object.__class__") = some true) (hm : mroIn K D (.type "object") = some true)
    (X : K.In s.heap) (I : InstAt s.heap x ox D od) (h : Q (some (.ref D)) { s with toks := s.toks + 1 }) : wpAny (model prog w) A (getAttr? (.ref x) "__class__") Q E s := by
  have hf : findObj K D od "__class__" = some (.bind (.builtin "getset_descriptor.__get__") (.builtin "object.__class__")) := hb_findObj (by obtain ⟨cd, hc, _⟩ := any_some hdct; rw [hc]; rfl) ha hn htk
  obtain ⟨hp, g, d, t, os⟩ := s
  have L0 := I.type (M := model prog w)
  have L1 := looks_findIn (M := model prog w) X hga
  have L2 := looks_findIn (M := model prog w) X hgt
  have L3 := looks_find (M := model prog w) X I hf
  have sub : Looks (model prog w) hp (isInstance (.ref x) (.type "BaseException")) true := L0.andThen (looks_subIn X hsub)
  have hx0 : (false && onTheHeap (Value.builtin "BaseException.__getattribute__")) = false := rfl
  have hx2 : (Value.builtin "BaseException.__getattribute__" == Value.builtin "object.__getattribute__") = false := by decide +kernel
  have hx1 : (onTheHeap (Value.ref D) && Value.builtin "BaseException.__getattribute__" == Value.builtin "object.__getattribute__") = false := by rw [hx2]; rfl
  unfold getAttr? getAttrBy? getAttrBy
  refine wpAny_bind (wpAny_mkText (wpAny_bind (wpAny_attempt (wpAny_holding (wpAny_bind (L0.at (wpAny_bind (L1.at ?_))))))))
  show wpAny _ _ (if (onTheHeap (Value.ref D) && Value.builtin "BaseException.__getattribute__" == Value.builtin "object.__getattribute__") = true then _ else _) _ _ _
  rw [hx1, if_neg Bool.false_ne_true]
  unfold getAttrByItsOwn hookBefore
  refine wpAny_bind ?_
  rw [if_pos (show onTheHeap (Value.ref D) = true from rfl)]
  refine L2.at ?_
  refine wpAny_bind (wpAny_attempt (wpAny_holding ?_))
  unfold callGetattribute
  rw [hx0, if_neg Bool.false_ne_true]
  unfold boundAndCalled
  rw [PySem.F.excAttr_ValueError.ga.bind (.ref x)]
  refine wpAny_bind (wpAny_pure ?_)
  show wpAny _ _ (call (.builtin "BaseException.__getattribute__") [.ref x, .str "__class__" t]) _ _ _
  refine wpAny_call (codeAny_call_builtin PySem.F.excAttr_ValueError.ga.plain PySem.F.entry_bexc_ga ?_)
  refine @check_slot (model prog w) _ _ ⟨hp, g, d, t + 1, os⟩ "BaseException.__getattribute__" "BaseException" "__getattribute__" (.ref x) [.str "__class__" t] [] _ (by decide +kernel) (by decide +kernel) sub (PySem.F.args_bexc_ga (.ref x) (.str "__class__" t)) ?_
  unfold Builtin.«object.__getattribute__»
  refine wpAny_bind (wpAny_of_eq (a := ((Value.ref x : Value), [Value.str "__class__" t])) (by first | rfl | (simp only [slotArgs]; rfl)) ?_)
  refine wpAny_bind (wpAny_pure (wpAny_bind (L0.at (wpAny_bind (L3.at ?_)))))
  show wpAny _ _ (holding [Value.builtin "object.__class__"] (call (.builtin "getset_descriptor.__get__") [.builtin "object.__class__", .ref x, .ref D]) >>= ret) _ _ _
  refine wpAny_bind (wpAny_holding (wpAny_call (class_get (s := ⟨hp, g, d, t + 1, os⟩) (ox := ox) (od := od) X I hm ?_)))
  refine wpAny_pure ?_
  show wpAny _ _ (handedOut (.ref D)) _ _ _
  rw [handedOut_of (v := .ref D) rfl]
  first
    | exact wpAny_pure (wpAny_pure h)
    | exact wpAny_pure h
    | exact wpAny_pure (wpAny_bind (wpAny_pure (wpAny_pure h)))
theorem hb_kitx (hga : findIn K (.ref D) "__getattribute__" = some (some (.builtin "BaseException.__getattribute__"))) (hgt : findIn K (.ref D) "__getattr__" = some none) (hsub : subIn K (.ref D) (.type "BaseException") = some true) (hdct : hasDictIn K D = true) (ha : findIn K (.ref D) "__class__" = some (some (.builtin "object.__class__")))
    (hn : specialIn K (.builtin "object.__class__") "__get__" = some (some (.builtin "getset_descriptor.__get__"))) (htk : takesIn K (.builtin "object.__class__") = some true) (hm : mroIn K D (.type "object") = some true) :
    KitX K (.ref x) (.ref D) (fun h => InstAt h x ox D od) where
  ty := fun _ _ _ I => I.type
  it := fun _ _ X _ => by
    obtain ⟨cdD, hcD, _⟩ := any_some hdct
    unfold clsIn at hcD
    split at hcD
    · rename_i c' d' cd' sl' ho
      intro A' Q' E' s' k q
      unfold isType loadHead
      exact wpAny_bind (wpAny_loadPart (k _ _ (X _ _ ho)) (wpAny_pure q))
    · cases hcD
  ne := fun h tp dd its n sl X htp => by
    obtain ⟨cdD, hcD, _⟩ := any_some hdct
    refine Bool.eq_false_iff.mpr fun q => ?_
    have e : D = tp := Value.ref.inj (beq_iff_eq.mp q)
    subst e
    unfold clsIn at hcD
    split at hcD
    · rename_i c' d' cd' sl' ho
      have z := (X _ _ ho).symm.trans htp
      cases z
    · cases hcD
  ca := fun X I k => hb_kin hga hgt hsub hdct ha hn htk hm X I k
end
end PySem.W

namespace L2
open PySem PySem.Spec PyProof.Rows
section
variable {X : Cx}
/-- at a: an exception of the class at D: one made plainly, or one with its own dict -/
def IsEx (H : Hp) (a D : Addr) : Prop := H a = some (ExO (.ref D) a) ∨ ∃ d fs, H a = some (exo a D (some d)) ∧ H d = some (exd d fs)
theorem instAt_of {pins : List (Addr × Obj)} {σ : St} {H : Hp} {s : Shared} {a D : Addr} (I : Inv X pins σ H s) (h : IsEx H a D) : ∃ ox od, PySem.W.InstAt s.heap a ox D od := by
  rcases h with h | ⟨d, fs, h, hd⟩
  · obtain ⟨⟨oe, vs, ho, hz, hdt, _⟩, _, _⟩ := I.hok a _ h
    refine ⟨oe, none, ?_⟩
    obtain ⟨oc, od, oda, osl⟩ := oe
    obtain ⟨h1, h2⟩ := hz
    dsimp only at h1 h2 hdt
    subst h1 h2 hdt
    exact ⟨ho, rfl, rfl, trivial⟩
  · obtain ⟨t1, ho⟩ := exo_at I.hok h
    obtain ⟨mA, hns, _⟩ := exd_at I.hok hd
    obtain ⟨o, ho2, _⟩ := lookIn_ns hns
    exact ⟨_, some o, ho, rfl, rfl, ho2⟩
/-- isinstance(e, c), e a tracked exception -/
def rIsX (K : PySem.W.Frag) : List V → Hp → VK → Prop := fun xs H Q => ∃ (a D : Addr) (c : V) (cv : Value) (b : Bool), xs = [.ref a, c] ∧ IsEx H a D ∧ ExcC K D ∧ (∀ u, RelV c u → u = cv) ∧ PySem.W.kitOne K (.ref D) cv = some b ∧ Q (.bl b) H
theorem call_isX : CallR X (.builtin "isinstance") (rIsX X.K) := by
  intro pins s σ H xs us Q I r h
  obtain ⟨a, D, c, cv, b, rfl, hx, C, hcv, e, q⟩ := h
  cases r with
  | cons rx rr =>
    cases rr with
    | cons rt rr =>
      cases rr
      cases rx
      have ec := hcv _ rt
      subst ec
      obtain ⟨ox, od, J⟩ := instAt_of I hx
      exact PySem.W.kia_one (PySem.W.hb_kitx C.hg C.hk C.hs C.hd C.ha C.hn C.ht C.hm) I.kIn J e (fun z => nomatch z) fun tk => ⟨.bl b, H, I.kept (t' := tk) fun _ _ z => z, rfl, q⟩

/-- e.n, e a tracked exception with its own dict -/
def tXv (K : PySem.W.Frag) (f : Str) (te : TE) : TE := fun σ H Q => te σ H fun x H1 => ∃ (a C dd : Addr) (fs : List (Str × V)) (v : V), x = .ref a ∧ XfC K C ∧ PySem.W.findIn K (.ref C) f = some none ∧ H1 a = some (exo a C (some dd)) ∧ H1 dd = some (exd dd fs) ∧ fs.lookup f = some v ∧ Q v H1
theorem pe_xv {e : Expr} {te : TE} {pos : Pos} {n : Str} (he : PE X e te) (hb : attributeBase e n X.env (eval e X.env) = eval e X.env := by rfl) :
    PE X (.Attribute e n pos) (tXv X.K n te) := by
  refine ⟨fun pins s σ H Q I h => ?_⟩
  refine attr_of hb (thn (he.run pins s σ H _ I h) fun u s1 hh => ?_)
  obtain ⟨x, H1, I1, rx, a, C, dd, fs, v, ex, T, hno, ea, ed, l, q⟩ := hh
  subst ex
  obtain rfl : u = Value.ref a := rx
  obtain ⟨t1, ho1⟩ := exo_at I1.hok ea
  obtain ⟨mA, hns, hr⟩ := exd_at I1.hok ed
  obtain ⟨od, ho, hl⟩ := lookIn_ns hns
  obtain ⟨u, hu, ru⟩ := RelO.some_of (v := v) (o := mA n) (by rw [← l]; exact hr n)
  have J : PySem.W.InstAt s1.heap a _ C (some od) := ⟨ho1, rfl, rfl, ho⟩
  exact HandSPX.exc_get I1.kIn J T.ga T.gg T.exC (PySem.W.findObj_own T.hdC hno rfl (by rw [hl, hu])) (handed_of ru) ⟨v, H1, I1.tok _, ru, q⟩

/-- B.__init__(self, ..), B an own class above that has no __init__ of its own -/
theorem pe_hinit {x : Str} {B : Addr} {e : Expr} {es : List Expr} {ta : TA} {p1 p2 pos : Pos} {pl : Sem Bool} (hg : Gl X x) (hm : X.mg x = some (.ref B))
    (hr : PySem.W.specialIn X.K (.ref B) "__getattribute__" = some (some (.builtin "type.__getattribute__"))) (rd : PySem.W.readsIn X.K B (.type "type") = true)
    (vV : PySem.W.findCls X.K (.ref B) (.type "type") "__init__" = some (.val (.builtin "ValueError.__init__"))) (ha : PA X (e :: es) ta)
    (hdb : (x == ("__debug__" : Str)) = false := by decide)
    (hc : eval (.Call (.Attribute (.Name x p1) "__init__" p2) (e :: es) [] pos) X.env = (do
      let ov ← eval (.Name x p1) X.env
      standAt p2.atName
      let (f, first) ← holding [ov] (getMethod ov "__init__" pl)
      callWith pos f first (backTo pos (starEach (e :: es) X.env)) (backToKw pos (keywordEach [] X.env))) := by rfl)
    (he : starEach (e :: es) X.env = (false, eval e X.env) :: starEach es X.env := by rfl) (hpl : (backTo pos (starEach es X.env)).any (·.1) = false := by rfl) :
    PE X (.Call (.Attribute (.Name x p1) "__init__" p2) (e :: es) [] pos) (tVeI X.K ta) := by
  refine ⟨fun pins s σ H Q I h => ?_⟩
  refine PySem.W.methodCall_KW (ld_glob I hg hm ?_ hdb) hc
  refine PySem.W.method_cls I.kIn hr ?_
  refine PySem.W.cls_value I.kIn rd vV (by decide +kernel) ?_
  show wpAny _ _ (callWith pos (Value.builtin "ValueError.__init__") [] (backTo pos (starEach (e :: es) X.env)) []) _ _ _
  refine PyProof.Rows.callWith_method1 (thn (ha.run pos pins _ σ H _ (I.tok _) h) fun us s1 ⟨vs, H1, I1, r1, a, C, ws, ev, hl, T, ea, q⟩ => ?_) he hpl
  subst ev
  cases r1 with
  | @cons _ u0 _ ur ra rw' =>
    obtain rfl : u0 = Value.ref a := ra
    have hlen : ur.length ≤ sizeLine := by
      rw [← Paired.length rw', sizeLine_eq]
      omega
    exact oinit_ok T I1 ea hlen fun s' J => ⟨.non, H1, J, rfl, q⟩

/-- C(e, ..), C's own __init__ keeping sp, as a value -/
def tMkV (C : Addr) (sp : Sp) (dvs : List V) (ta : TA) : TE := fun σ H Q => ta σ H fun vs H1 => vs.length ≤ 1000 ∧ ∀ a, H1 a = none → sp (.ref a :: (vs ++ dvs)) (upd H1 a (exo a C none))
  (fun v H2 => v = .non ∧ H2 a ≠ none ∧ Q (.ref a) H2) (fun _ _ _ => False)
theorem Un.of_new {fs : List Addr} {H H2 : Hp} {hp hp2 h2 : Heap} {a : Addr} {o : HO} (hn : H a = none) (ha : hp.objs.size ≤ a) (k : ∀ b u, hp.get? b = some u → hp2.get? b = some u) (un : Un fs [] (upd H a o) H2 hp2 h2) : Un fs [] H H2 hp h2 :=
  have nha : ∀ {b : Addr} {u : Obj}, hp.get? b = some u → b ≠ a := fun {b u} z => Nat.ne_of_lt (Nat.lt_of_lt_of_le (Heap.lt_size z) ha)
  have up : ∀ {b : Addr}, b ≠ a → H b = none → upd H a o b = none := fun {b} hb n => by rw [upd_ne hb]; exact n
  { keep := fun b u z n hf hx => un.keep b u (k b u z) (up (nha z) n) hf hx
    slot := fun b u z n hf hx => un.slot b u (k b u z) (up (nha z) n) hf hx
    free := fun b u z n hx => un.free b u (k b u z) (up (nha z) n) hx
    there := fun b u z hx => un.there b u (k b u z) hx
    tups := fun b xs z => un.tups b xs (by rw [upd_ne (ne_of_none z hn)]; exact z)
    frzs := fun b u v z => un.frzs b u v (by rw [upd_ne (ne_of_none z hn)]; exact z)
    tbls := fun b ps z => un.tbls b ps (by rw [upd_ne (ne_of_none z hn)]; exact z) }
theorem pe_mkV {CX : CXT} {x : Str} {C fI : Addr} {k : Nat} {fd : FuncData} {ps : List Str} {sp : Sp} {ds : List Value} {dvs : List V} {e : Expr} {es : List Expr} {ta : TA} {p pos : Pos} (T : OexC X.K C) (iC : PySem.W.findIn X.K (.ref C) "__init__" = some (some (.ref fI))) (tI : PySem.W.typeIn X.K (.ref fI) = some (.type "function"))
    (F1 : FnOk X.prog X.w X.K X.mg X.base CX k fI fd ps sp) (hr : Room (k + 1) X.A) (hb : Binds X.K fd ps ds) (hd : Vals dvs ds) (hx : Passes CX X (fun _ _ _ => False)) (hg : Gl X x) (hm : X.mg x = some (.ref C)) (ha : PA X (e :: es) ta)
    (hdb : (x == ("__debug__" : Str)) = false := by decide) (he : starEach (e :: es) X.env = (false, eval e X.env) :: starEach es X.env := by rfl) (hpl : (backTo pos (starEach es X.env)).any (·.1) = false := by rfl) :
    PE X (.Call (.Name x p) (e :: es) [] pos) (tMkV C sp dvs ta) := by
  refine ⟨fun pins s σ H Q I h => ?_⟩
  obtain ⟨nm, q, N, bs, bm, sn, sub, ab, col, dd, k0, k1, k2, k3, k5, hC, hbm⟩ := T.cls
  refine wpAny_Call_Name_kw (ld_glob I hg hm ?_ hdb)
  refine PySem.W.callWith_K (h₀ := X.base) I.ok.mod.kin T.kC (thn (ha.run pos pins s σ H _ I h) fun us s1 ⟨vs, H1, I1, r1, hz, q1⟩ => ⟨I1.kIn, ?_⟩) he hpl
  show wpAny _ _ (call (.ref C) us) _ _ _
  obtain ⟨hp, g, dr, tk, os⟩ := s1
  have hsz : hp.objs.size ≤ hp.objs.size + 1 := Nat.le_succ _
  have hn : H1 (hp.objs.size + 1) = none := I1.hok.fresh hsz
  have hq := q1 (hp.objs.size + 1) hn
  have kk : ∀ b o, hp.get? b = some o → ((hp.push (PySem.W.kdv_tup us)).push (PySem.HandSPX.excO C hp.objs.size)).get? b = some o := fun b o e => Heap.get?_push_of_some _ (Heap.get?_push_of_some _ e)
  have hget : ((hp.push (PySem.W.kdv_tup us)).push (PySem.HandSPX.excO C hp.objs.size)).get? (hp.objs.size + 1) = some (PySem.HandSPX.excO C hp.objs.size) := by heap_get
  have I2 : Inv X pins σ (upd H1 (hp.objs.size + 1) (exo (hp.objs.size + 1) C none)) ⟨(hp.push (PySem.W.kdv_tup us)).push (PySem.HandSPX.excO C hp.objs.size), g, dr, tk, os⟩ :=
    I1.laid (t' := tk) (a := hp.objs.size + 1) (o := exo (hp.objs.size + 1) C none) (h' := (hp.push (PySem.W.kdv_tup us)).push (PySem.HandSPX.excO C hp.objs.size)) kk hsz (exo_ok hget)
  have r3 : Vals (V.ref (hp.objs.size + 1) :: (vs ++ dvs)) (Value.ref (hp.objs.size + 1) :: (us ++ ds)) := .cons rfl (r1.append hd)
  have hl : (Value.ref (hp.objs.size + 1) :: us ++ ds).length = ps.length := by
    have e := r3.length
    rw [F1.len _ _ _ _ hq] at e
    exact e.symm
  have hus : us.length ≤ sizeLine := by
    rw [← Paired.length r1, sizeLine_eq]
    omega
  refine wpAny_call (PySem.HandSPX.call_own F.excBase_ValueError (fun Y => PySem.HandSPX.refsVE_contains Y bm hbm) (I1.kIn _ _ hC) (PySem.W.looks_findIn I1.kIn iC) (fun self => PySem.W.bind_fn I1.kIn self tI) hus
    (codeAny_mono (F1.run _ X.stack _ _ ⟨Value.ref (hp.objs.size + 1) :: us, []⟩ (Value.ref (hp.objs.size + 1) :: (us ++ ds)) _ _ (fun _ _ _ => False) (hr.make C us []) (I2.env0.make C us []) (hb _ (Value.ref (hp.objs.size + 1) :: us) I2.kIn hl) r3 hq) fun r s' hq' => ?_))
  cases r with
  | error er => exact hx pins σ _ _ er s' I2 hq'
  | ok fl =>
    cases fl with
    | ret u =>
      obtain ⟨v, H2, os2, bare2, un2, hok2, rv, ev, hne, q2⟩ := hq'
      subst ev
      exact ⟨rv, .ref (hp.objs.size + 1), H2, I1.call' (ch := []) os2 (Un.of_new hn hsz kk un2) hok2 bare2 (fun b z => absurd z (by simp)), rfl, q2⟩
    | next => exact False.elim hq'
    | brk => exact False.elim hq'
    | cont => exact False.elim hq'
end
end L2
end
section
set_option Elab.async false
set_option linter.all false
set_option maxRecDepth 100000
set_option maxHeartbeats 2000000
/-! Defs called where no guard stands (so that repr is told), powers, repr of data. -/
namespace L2
open PySem PySem.Spec PyProof.Rows
def CPowB (i j : Int) : Prop := 0 ≤ j ∧ (PySem.Builtin.Int.intBits i : Int) * j ≤ 2 ^ 27
theorem op_powB {X : Cx} : OpR X (binaryOp .Pow) (rI CPowB fun i j => .int (i ^ j.toNat)) := opI fun _ _ _ _ _ _ _ hc q => pow_int hc.1 hc.2 q

/-- a datum that repr tells: as Dp, an empty dict too -/
inductive Dq (K : PySem.W.Frag) (H : Hp) : V → PyData → Prop
  | of {v : V} {d : PyData} (h : Dp K H v d) : Dq K H v d
  | dict {a : Addr} (h : H a = some (.dK [])) : Dq K H (.ref a) (.dict [])
theorem Dp.noDict {K : PySem.W.Frag} {H : Hp} : ∀ {v : V} {d : PyData}, Dp K H v d → d.hasDict = false := by
  have one : ∀ (d : PyData) (v : V), Dp K H v d → d.hasDict = false := fun d =>
    PyData.rec (motive_1 := fun d => ∀ v, Dp K H v d → d.hasDict = false) (motive_2 := fun ds => ∀ vs, DpAll K H vs ds → PyData.hasDictAll ds = false) (motive_3 := fun _ => True) (motive_4 := fun _ => True)
      (fun _ _ => by simp [PyData.hasDict]) (fun _ _ _ => by simp [PyData.hasDict]) (fun _ _ _ => by simp [PyData.hasDict]) (fun _ _ _ => by simp [PyData.hasDict])
      (fun ds ih v h => by cases h with | lst hs ha => simpa [PyData.hasDict] using ih _ ha)
      (fun ds ih v h => by cases h with | tup hs ha => simpa [PyData.hasDict] using ih _ ha)
      (fun _ _ v h => by cases h)
      (fun _ _ => by simp [PyData.hasDictAll])
      (fun d ds ih ihs vs h => by
        cases h with
        | cons h1 h2 => simp [PyData.hasDictAll, ih _ h1, ihs _ h2])
      trivial (fun _ _ _ _ => trivial) (fun _ _ _ _ => trivial) d
  exact fun {v d} h => one d v h
section
variable {X : Cx}
/-- repr(x) -/
def rRepr (K : PySem.W.Frag) : List V → Hp → VK → Prop := fun xs H Q => ∃ (x : V) (d : PyData), xs = [x] ∧ Dq K H x d ∧ d.showable = true ∧ d.depth ≤ 60 ∧ d.shown.length ≤ sizeLine ∧ Q (.str d.shown) H
theorem call_reprD (hg : X.A.guards = some []) (hu : X.A.units + 64 < cLine) : CallR X (.builtin "repr") (rRepr X.K) := by
  intro pins s σ H xs us Q I r h
  obtain ⟨x, d, rfl, hd, hs, hdp, hz, q⟩ := h
  obtain ⟨u, rfl, ru⟩ := vals1 r
  have fin : ∀ h' t tk, (∀ b o, s.heap.get? b = some o → h'.get? b = some o) → EP X pins σ Q (.str d.shown t) { s with heap := h', toks := tk } := fun h' t tk k =>
    ⟨.str d.shown, H, I.kept k, ⟨_, rfl⟩, q⟩
  have isref : ∀ (a : Addr) (as : List Addr), u = .ref a → Reads s.heap (.ref a) d as → (d.hasDict = true → sysModules ∉ as) → wpAny (model X.prog X.w) X.A (call (.builtin "repr") [u]) (EP X pins σ Q) X.xe s := fun a as e rr hm => by
    subst e
    exact repr_of_reads' rr hs hm hg (by omega) (fun _ _ e => e) fin hz
  cases hd with
  | of hd =>
    obtain ⟨as, rr⟩ := Dp.reads I d x u hd ru
    have nd := hd.noDict
    cases hd with
    | non => cases ru; exact PySem.P.repr_of_none (fin _ _ _ fun _ _ e => e)
    | bl b => cases ru; exact PySem.P.repr_of_bool (by cases b <;> exact fin _ _ _ fun _ _ e => e)
    | int i =>
      obtain ⟨t, rfl⟩ := ru
      exact PySem.P.repr_of_int (by simpa [PyData.showable] using hs) (fin _ _ _ fun _ _ e => e)
    | str z => obtain ⟨t, rfl⟩ := ru; exact PySem.P.repr_of_str (fin _ _ _ fun _ _ e => e) hz
    | lst h1 h2 => exact isref _ as ru (by cases ru; exact rr) (PyData.noDict_hsm nd)
    | tup h1 h2 => exact isref _ as ru (by cases ru; exact rr) (PyData.noDict_hsm nd)
  | @dict a ha =>
    obtain ⟨_, hne, vs, hkv, hdo⟩ := I.hok a _ ha
    cases hkv
    obtain ⟨o, es, ep, ho, hx, hdt, _, hps, _⟩ := hdo
    have hes' : es.toList = [] := List.eq_nil_of_length_eq_zero hps.length
    have rr : Reads s.heap (.ref a) (.dict []) (a :: [] ++ []) := Reads.dict (es := es) (n := ep) (as := []) (bs := []) ho hx.1 hdt (by rw [hes']; exact .nil) (by rw [hes']; exact .nil)
    refine isref a _ ru rr fun _ hm => ?_
    have : sysModules = a := by simpa using hm
    subst this
    simp at hne
end
section
variable {P : Program} {w : World} {K : PySem.W.Frag} {mg : Str → Option Value} {base : Heap}
/-- as FnOk, where no guard stands at the call -/
structure FnG (P : Program) (w : World) (K : PySem.W.Frag) (mg : Str → Option Value) (base : Heap) (CX : CXT) (k : Nat) (f : Addr) (fd : FuncData) (ps : List Str) (sp : Sp) : Prop where
  len : ∀ vs H Q E, sp vs H Q E → vs.length = ps.length
  run : ∀ (A : Around) (outer : List Env) (s : Shared) (H : Hp) (args : Args) (us : List Value) (vs : List V) (Q : VK) (E : XK), A.guards = some [] → Room k A → Env0 P w K mg base A outer s H →
    BindsTo s fd args (ps.zip us) → Vals vs us → sp vs H Q E → codeAny (model P w) A (.call (.ref f) args) (CR CX outer P w H s Q E) s
/-- THE RULE for a def at one call: its body's term and reading at that call's around -/
theorem body_run {CX : CXT} {k : Nat} {f : Addr} {x qual : Str} {st : Stmt} {fd : FuncData} {N ps : List Str} (F : Fun K x qual st f fd) (S : FnScope N ps (defScope st)) {A : Around} {outer : List Env} {s : Shared} {H : Hp} {args : Args} {us : List Value} {vs : List V} {Q : VK} {E : XK}
    (hl : vs.length = ps.length) (hr : Room (k + 1) A) (e0 : Env0 P w K mg base A outer s H) (hb : BindsTo s fd args (ps.zip us)) (r : Vals vs us)
    (hbody : ∀ cdv : Value, Room k (A.deeper (envOfC qual (defScope st) s.heap.objs.size f cdv)) →
      ∃ t, PSs (cxOf CX P w K mg base N qual (defScope st) f cdv A outer s H E) (defBody st) t ∧ t { nx := fun _ H' => Q .non H', rt := Q } (start N vs) H) :
    codeAny (model P w) A (.call (.ref f) args) (CR CX outer P w H s Q E) s := by
  obtain ⟨oc, od, kV, doc, pm, an, cdv, ct, osl, rfl, lk, hcd⟩ := F.ex
  have KX : K.In s.heap := e0.mod.kin.keeps fun b o e => (e0.bs b o e).1
  refine codeAny_call_function hr.depth (KX _ _ lk) rfl S.co S.gen rfl (PySem.W.codeRec_of KX hcd) (hb _ _ _ _ ?_)
  refine wpAny_newFunctionEnv_cells S.kind (fun y hy => ?_) fun env he s1 z => ?_
  · rcases S.par y.1 (List.of_mem_zip hy).1 with q | q
    · exact .inl q
    · exact .inr ⟨q, PySem.W.cellsFrom_some _ _ _ (.inl q)⟩
  subst he
  have lim : s.heap.NoLimit := e0.mod.nolimit.keeps fun b o e => (e0.bs b o e).1
  refine ⟨lim.keeps z.toInCall.keep, codeAny_func ?_⟩
  obtain ⟨t, ht, hq⟩ := hbody cdv (hr.deeper _)
  have I := inv_start (CX := CX) (N := N) (E := E) S hr.hd e0 hl r z
  refine wpAny_mono (ht.run [] s1 (start N vs) H _ I hq) (fun fl s' hs => ?_) fun e s' hs => hs
  cases fl with
  | ret u => obtain ⟨v, _, H', J, rv, q⟩ := hs; exact ⟨v, H', J.os, J.bare, J.base, J.hok, rv, q⟩
  | next => obtain ⟨_, H', J, q⟩ := hs; exact ⟨.non, H', J.os, J.bare, J.base, J.hok, rfl, q⟩
  | brk => obtain ⟨_, _, _, q⟩ := hs; exact q.elim
  | cont => obtain ⟨_, _, _, q⟩ := hs; exact q.elim
theorem Fun.okG {k : Nat} {f : Addr} {x qual : Str} {st : Stmt} {fd : FuncData} {N ps : List Str} {sp : Sp} (F : Fun K x qual st f fd) (S : FnScope N ps (defScope st)) (len : ∀ vs H Q E, sp vs H Q E → vs.length = ps.length)
    (hbody : ∀ (cdv : Value) (A : Around) (outer : List Env) (s : Shared) (H : Hp) (vs : List V) (Q : VK) (E : XK), (A.deeper (envOfC qual (defScope st) s.heap.objs.size f cdv)).guards = some [] → Room k (A.deeper (envOfC qual (defScope st) s.heap.objs.size f cdv)) → sp vs H Q E →
      ∃ t, PSs (cxOf CX0 P w K mg base N qual (defScope st) f cdv A outer s H E).nox (defBody st) t ∧ t { nx := fun _ H' => Q .non H', rt := Q } (start N vs) H) : FnG P w K mg base CX0 (k + 1) f fd ps sp :=
  ⟨len, fun A outer s H args us vs Q E hg hr e0 hb r hsp => body_run F S (len _ _ _ _ hsp) hr e0 hb r fun cdv hr' => by
    obtain ⟨t, h, q⟩ := hbody cdv A outer s H vs Q E hg hr' hsp
    exact ⟨t, h.nox, q⟩⟩
/-- the law's promise at the caller, from what the head leaves; nothing but the script is tracked -/
theorem law_callG {a fa : Addr} {fd : FuncData} {x : Str} {sp : Sp} {mb : Str → Option Value} {k : Nat} {s₁ : Shared} {vs : List Value} {ns : List Int}
    (KX : K.In s₁.heap) (hns : s₁.heap.Ns mainGlobals mg) (hb : s₁.heap.Ns builtinsNs mb) (hbb : ∀ x : Str, x ≠ "__name__" → mb x = bootBuiltins x) (hlim : s₁.heap.NoLimit) (hg : s₁.gens = #[])
    (ha : s₁.heap.get? a = some { cls := .type "list", data := .seq vs.toArray }) (hi : IntsAre vs ns) (hl : ns.length ≤ sizeLine) (hr : Room k callerA)
    (F : ∀ base : Heap, K.In base → base.Ns mainGlobals mg → FnG P w K mg base CX0 k fa fd [x] sp) (hbind : ∀ (s : Shared) (u : Value), BindsTo s fd ⟨[u], []⟩ [(x, u)])
    (hsp : ∀ H : Hp, Only H → SqL K H a (ns.map V.int) → sp [.ref a] H (fun v _ => v = .bl true) fun _ _ _ => False) :
    codeAny (model P w) callerA (.call (.ref fa) ⟨[.ref a], []⟩) (fun r s' => r = .ok (.ret (.bool true)) ∧ OldK s₁.heap s'.heap ∧ s'.os = s₁.os ∧ AllBare s'.gens) s₁ := by
  have rv : Vals (ns.map V.int) vs := vals_ints hi
  -- the heap that is told: H, where nothing but the script may stand; what it leaves out is the base
  have core : ∀ H : Hp, (∀ b, H b = none ∨ (b = a ∧ K.lookup a = none ∧ H b = some (.frz { cls := .type "list", data := .seq vs.toArray } (.lst (ns.map V.int))))) → SqL K H a (ns.map V.int) →
      codeAny (model P w) callerA (.call (.ref fa) ⟨[.ref a], []⟩) (fun r s' => r = .ok (.ret (.bool true)) ∧ OldK s₁.heap s'.heap ∧ s'.os = s₁.os ∧ AllBare s'.gens) s₁ := by
    intro H hH hS
    have only : Only H := fun b => (hH b).imp id fun h => ⟨_, _, h.2.2⟩
    have off : ∀ {b : Addr} {o : Obj}, s₁.heap.get? b = some o → (∀ items n, o.data ≠ .seq items n) → H b = none := fun {b o} e d => by
      rcases hH b with z | ⟨rfl, _, _⟩
      · exact z
      · rw [ha] at e
        cases e
        exact absurd rfl (d _ _)
    have ns' : ∀ {b : Addr} {m : Str → Option Value}, s₁.heap.Ns b m → (hidT s₁.heap H).Ns b m := fun {b m} ⟨o, es, ep, e, d, z⟩ =>
      ⟨o, es, ep, hidT_get e (off e fun _ _ q => by rw [d] at q; cases q), d, z⟩
    have inK : K.In (hidT s₁.heap H) := fun b o e => hidT_get (KX b o e) (by
      rcases hH b with z | ⟨rfl, n, _⟩
      · exact z
      · rw [n] at e; cases e)
    have lim' : (hidT s₁.heap H).NoLimit := by
      obtain ⟨mc, h1, h2⟩ := hlim
      exact ⟨mc, ns' h1, h2⟩
    have hok : HOk P w H s₁.heap := fun b u e => by
      rcases hH b with z | ⟨rfl, _, z⟩
      · rw [z] at e; cases e
      · rw [z] at e
        cases e
        exact ⟨ha, by rw [List.length_map]; exact hl, vs, _, rv, ha⟩
    have e0 : Env0 P w K mg (hidT s₁.heap H) callerA [] s₁ H :=
      ⟨rfl, ⟨inK, ns' hns, ⟨mb, ns' hb, hbb⟩, lim'⟩, fun b o e => of_hidT e, Nat.le_of_eq (hidT_size _ _), trivial, (fun b z => nomatch z), hok, .of_eq hg⟩
    refine codeAny_mono ((F _ inK (ns' hns)).run callerA [] s₁ H ⟨[.ref a], []⟩ [.ref a] [.ref a] _ _ rfl hr e0 (hbind s₁ (.ref a)) (.cons rfl .nil) (hsp H only hS)) fun r s' h => ?_
    cases r with
    | error e => exact False.elim h
    | ok fl =>
      cases fl with
      | ret u =>
        obtain ⟨v, H', os, bare, un, hok', rv', rfl⟩ := h
        cases rv'
        refine ⟨rfl, OldK.of_keep fun b o e => ?_, os, bare⟩
        rcases hH b with z | ⟨rfl, _, z⟩
        · exact un.keep b o e z (fun q => nomatch q) (fun q => nomatch q)
        · have e2 := (hok' _ _ (un.frzs _ _ _ z)).1
          rw [ha] at e
          exact e2.trans e
      | next => exact False.elim h
      | brk => exact False.elim h
      | cont => exact False.elim h
  cases hk : K.lookup a with
  | some o =>
    have e := KX a o hk
    rw [ha] at e
    cases e
    exact core (fun _ => none) (fun _ => .inl rfl) (.inr ⟨_, vs.toArray, _, hk, rfl, rfl, rfl, by rw [List.size_toArray, hi.length]; exact hl, by simpa using rv⟩)
  | none =>
    refine core (upd (fun _ => none) a (.frz { cls := .type "list", data := .seq vs.toArray } (.lst (ns.map V.int)))) (fun b => ?_) (.inl (.inr ⟨_, upd_same⟩))
    by_cases hb : b = a
    · exact .inr ⟨hb, hk, by rw [hb]; exact upd_same⟩
    · exact .inl (upd_ne hb)
end
/-- the goal that the head leaves, from the law's promise where no guard stands -/
theorem walk_ofG {l : PySem.W.OpenLaw} {n k : Nat} {q : Program} {loose : List Str} {XP : (Str → Option Value) → Heap → Prop} {YP : World → Heap → Prop} {d : DefRec} {K : Params → PySem.W.Frag} {sp : World → Sp} {x : Str}
    (hn : l.most = some n) (hn2 : n ≤ sizeLine) (hdf : d.params.defaults = []) (hr : Room k callerA) (hY : ∀ (w : World) (h : Heap), YP w h → (K w.params).In h)
    (F : ∀ (w : World) (mg : Str → Option Value) (fa : Addr) (h : Heap), (K w.params).In h → h.Ns mainGlobals mg → mg d.name = some (.ref fa) →
      ∃ fd : FuncData, (∀ (s : Shared) (u : Value), BindsTo s fd ⟨[u], []⟩ [(x, u)]) ∧
        ∀ base : Heap, (K w.params).In base → base.Ns mainGlobals mg → FnG l.prog w (K w.params) mg base CX0 k fa fd [x] (sp w))
    (hsp : ∀ (w : World) (H : Hp) (a : Addr) (ns : List Int), ns.length ≤ n → Only H → SqL (K w.params) H a (ns.map V.int) → sp w [.ref a] H (fun v _ => v = .bl true) fun _ _ _ => False) :
    PySem.W.WalkO q loose XP YP l.row.toRowW d [] (fun f vs => PySem.call f vs) := by
  refine Att.attach_call hn hdf fun w s₀ s₁ mg mb fa o pm cd doc a vs ns G Y _ _ _ hmg hobj hints hlen hg => ?_
  obtain ⟨fd, hb, hF⟩ := F w mg fa _ (hY w _ Y) G.T.g hmg
  exact law_callG (hY w _ Y) G.T.g G.T.b G.T.builtins G.T.nolimit hg hobj hints (Nat.le_trans hlen hn2) hr hF hb fun H hO hS => hsp w H a ns hlen hO hS
end L2
end
section
set_option Elab.async false
set_option linter.all false
set_option maxRecDepth 100000
set_option maxHeartbeats 2000000
/-! Readings that a rewriter can reckon: what stands at an address is told by functions. -/
namespace HbE
open PySem PySem.Spec PyProof.Rows L2

/-- a list or a tuple that stands at an address: which of both, its items -/
def lk (H : Hp) (a : Addr) : Option (Bool × List V) := match H a with
  | some (.lst xs) => some (true, xs)
  | some (.tup xs) => some (false, xs)
  | some (.frz _ (.lst xs)) => some (true, xs)
  | some (.frz _ (.tup xs)) => some (false, xs)
  | _ => none
theorem lk_seq {K : PySem.W.Frag} {H : Hp} {a : Addr} {b : Bool} {xs : List V} (h : lk H a = some (b, xs)) : (b = true ∧ SqL K H a xs) ∨ (b = false ∧ SqT K H a xs) := by
  unfold lk at h
  split at h
  · rename_i e; cases h; exact .inl ⟨rfl, .inl (.inl e)⟩
  · rename_i e; cases h; exact .inr ⟨rfl, .inl (.inl e)⟩
  · rename_i e; cases h; exact .inl ⟨rfl, .inl (.inr ⟨_, e⟩)⟩
  · rename_i e; cases h; exact .inr ⟨rfl, .inl (.inr ⟨_, e⟩)⟩
  · cases h
theorem lk_lst {H : Hp} {a : Addr} {xs : List V} (h : H a = some (.lst xs)) : lk H a = some (true, xs) := by unfold lk; rw [h]
theorem lk_tup {H : Hp} {a : Addr} {xs : List V} (h : H a = some (.tup xs)) : lk H a = some (false, xs) := by unfold lk; rw [h]

/-- the items of the list or tuple at an address -/
def sq (H : Hp) (a : Addr) : Option (List V) := (lk H a).map (·.2)
theorem sq_lk {H : Hp} {a : Addr} {xs : List V} (h : sq H a = some xs) : ∃ b, lk H a = some (b, xs) := by
  obtain ⟨⟨b, ys⟩, h1, h2⟩ := Option.map_eq_some_iff.mp h
  cases h2
  exact ⟨b, h1⟩
theorem sq_of {H : Hp} {a : Addr} {b : Bool} {xs : List V} (h : lk H a = some (b, xs)) : sq H a = some xs := by unfold sq; rw [h]; rfl
theorem sq_lst {H : Hp} {a : Addr} {xs : List V} (h : H a = some (.lst xs)) : sq H a = some xs := sq_of (lk_lst h)
theorem sq_tup {H : Hp} {a : Addr} {xs : List V} (h : H a = some (.tup xs)) : sq H a = some xs := sq_of (lk_tup h)
theorem lk_updL {H : Hp} {a : Addr} {xs : List V} : lk (upd H a (.lst xs)) a = some (true, xs) := lk_lst upd_same
theorem lk_updT {H : Hp} {a : Addr} {xs : List V} : lk (upd H a (.tup xs)) a = some (false, xs) := lk_tup upd_same
theorem sq_updL {H : Hp} {a : Addr} {xs : List V} : sq (upd H a (.lst xs)) a = some xs := sq_of lk_updL
theorem sq_updT {H : Hp} {a : Addr} {xs : List V} : sq (upd H a (.tup xs)) a = some xs := sq_of lk_updT
theorem lk_ne {H : Hp} {a b : Addr} {o : HO} (h : b ≠ a) : lk (upd H a o) b = lk H b := by unfold lk; rw [upd_ne h]
theorem sq_ne {H : Hp} {a b : Addr} {o : HO} (h : b ≠ a) : sq (upd H a o) b = sq H b := by unfold sq; rw [lk_ne h]
theorem ne_new {H : Hp} {a p : Addr} {o : HO} (h : H a = some o) (hp : H p = none) : a ≠ p := ne_of_none h hp
theorem sq_some {H : Hp} {a : Addr} {xs : List V} (h : sq H a = some xs) : H a ≠ none := fun z => by
  obtain ⟨b, h⟩ := sq_lk h
  unfold lk at h
  rw [z] at h
  cases h
theorem sq_new {H : Hp} {a p : Addr} {xs : List V} (h : sq H a = some xs) (hp : H p = none) : a ≠ p := fun z => sq_some h (z ▸ hp)

/-- x[i] of a list or tuple -/
def rIxA : R2 := fun x y H Q => ∃ p i xs v, x = .ref p ∧ y = .int i ∧ sq H p = some xs ∧ atI xs i = some v ∧ Q v H
theorem ix_any {X : Cx} : IxR X rIxA := by
  intro value slice pins s σ H x y v u Q I rx ry h hs
  obtain ⟨p, i, xs, z, ex, ey, e, ha, q⟩ := h
  obtain ⟨b, e⟩ := sq_lk e
  rcases lk_seq (K := X.K) e with ⟨_, hl⟩ | ⟨_, ht⟩
  · exact ix_list value slice pins s σ H x y v u Q I rx ry ⟨p, xs, i, z, ex, ey, hl, ha, q⟩ hs
  · exact ix_tup value slice pins s σ H x y v u Q I rx ry ⟨p, xs, i, z, ex, ey, ht, ha, q⟩ hs

/-- x + y: ints, texts, lists (tracked) -/
def rAddA : R2 := fun x y H Q => match x, y with
  | .int i, .int j => Q (.int (i + j)) H
  | .str a, .str b => a.length + b.length ≤ sizeLine ∧ Q (.str (a ++ b)) H
  | .ref l, .ref b => ∃ xs zs, H l = some (.lst xs) ∧ H b = some (.lst zs) ∧ xs.length + zs.length ≤ sizeLine ∧ ∀ p, H p = none → Q (.ref p) (upd H p (.lst (xs ++ zs)))
  | _, _ => False
theorem op_addA {X : Cx} : OpR X (binaryOp .Add) rAddA := by
  intro pins s σ H x y v u Q I rx ry h
  unfold rAddA at h
  split at h
  · exact op_add pins s σ H _ _ v u Q I rx ry ⟨_, _, rfl, rfl, h⟩
  · exact op_add_str pins s σ H _ _ v u Q I rx ry ⟨_, _, rfl, rfl, h.1, h.2⟩
  · obtain ⟨xs, zs, h1, h2, h3, h4⟩ := h
    exact op_cat pins s σ H _ _ v u Q I rx ry ⟨_, _, xs, zs, rfl, rfl, h1, h2, h3, h4⟩
  · exact h.elim

def allO {α β : Type} (f : α → Option β) : List α → Option (List β)
  | [] => some []
  | x :: xs => match f x, allO f xs with
    | some y, some ys => some (y :: ys)
    | _, _ => none
/-- what a value is as a datum, to a depth -/
def datN : Nat → Hp → V → Option PyData
  | _, _, .non => some .none
  | _, _, .bl b => some (.bool b)
  | _, _, .int i => some (.int i)
  | _, _, .str x => some (.str x)
  | 0, _, _ => none
  | n + 1, H, .ref a => match lk H a with
    | some (true, xs) => (allO (datN n H) xs).map .list
    | some (false, xs) => (allO (datN n H) xs).map .tuple
    | none => none
  | _, _, _ => none
theorem datN_dp {K : PySem.W.Frag} {H : Hp} : ∀ (n : Nat) (v : V) (d : PyData), datN n H v = some d → Dp K H v d := by
  intro n
  induction n with
  | zero =>
    intro v d h
    cases v <;> simp [datN] at h <;> subst h <;> constructor
  | succ n ih =>
    have all : ∀ (xs : List V) (ds : List PyData), allO (datN n H) xs = some ds → DpAll K H xs ds := by
      intro xs
      induction xs with
      | nil => intro ds h; cases h; exact .nil
      | cons x xs ih2 =>
        intro ds h
        unfold allO at h
        split at h
        · rename_i y ys h1 h2
          cases h
          exact .cons (ih x y h1) (ih2 ys h2)
        · cases h
    intro v d h
    cases v with
    | ref a =>
      simp only [datN] at h
      split at h
      · rename_i xs e
        obtain ⟨ds, h1, rfl⟩ := Option.map_eq_some_iff.mp h
        rcases lk_seq (K := K) e with ⟨_, q⟩ | ⟨q, _⟩
        · exact .lst q (all xs ds h1)
        · cases q
      · rename_i xs e
        obtain ⟨ds, h1, rfl⟩ := Option.map_eq_some_iff.mp h
        rcases lk_seq (K := K) e with ⟨q, _⟩ | ⟨_, q⟩
        · cases q
        · exact .tup q (all xs ds h1)
      · cases h
    | non => simp [datN] at h; subst h; constructor
    | bl b => simp [datN] at h; subst h; constructor
    | int i => simp [datN] at h; subst h; constructor
    | str x => simp [datN] at h; subst h; constructor
    | byt b => simp [datN] at h
    | flt b => simp [datN] at h
    | ty b => simp [datN] at h
/-- == and != -/
def rEqA (neg : Bool) : R2 := fun x y H Q => if scal x y = true then Q (.bl (neg ^^ decide (x = y))) H else
  ∃ d e, datN 8 H x = some d ∧ datN 8 H y = some e ∧ SeqAt.shaped d = true ∧ SeqAt.shaped e = true ∧ Q (.bl (neg ^^ PyData.eqv d e)) H
theorem op_eqA {X : Cx} (hu : X.A.units + 64 < cLine) : OpR X (compareOp .Eq) (rEqA false) := by
  intro pins s σ H x y v u Q I rx ry h
  unfold rEqA at h
  split at h
  · rename_i hs
    exact op_eq pins s σ H x y v u Q I rx ry ⟨hs, by simpa using h⟩
  · obtain ⟨d, e, h1, h2, h3, h4, q⟩ := h
    exact op_eqD hu pins s σ H x y v u Q I rx ry ⟨d, e, datN_dp _ _ _ h1, datN_dp _ _ _ h2, h3, h4, by simpa using q⟩
theorem op_neA {X : Cx} (hu : X.A.units + 64 < cLine) : OpR X (compareOp .NotEq) (rEqA true) := by
  intro pins s σ H x y v u Q I rx ry h
  unfold rEqA at h
  split at h
  · rename_i hs
    exact op_ne pins s σ H x y v u Q I rx ry ⟨hs, by simpa using h⟩
  · obtain ⟨d, e, h1, h2, h3, h4, q⟩ := h
    exact op_neD hu pins s σ H x y v u Q I rx ry ⟨d, e, datN_dp _ _ _ h1, datN_dp _ _ _ h2, h3, h4, by simpa using q⟩

/-- len -/
def rLenA : List V → Hp → VK → Prop := fun vs H Q => ∃ p xs, vs = [.ref p] ∧ sq H p = some xs ∧ Q (.int xs.length) H
theorem call_lenA {X : Cx} : CallR X (.builtin "len") rLenA := by
  intro pins s σ H xs us Q I r h
  obtain ⟨p, ys, e, h1, q⟩ := h
  obtain ⟨b, h1⟩ := sq_lk h1
  refine call_len_seq pins s σ H xs us Q I r ⟨p, ys, e, ?_, q⟩
  rcases lk_seq (K := X.K) h1 with ⟨_, hl⟩ | ⟨_, ht⟩
  · exact .inl hl
  · exact .inr ht
/-- int, of an int or a bool -/
def rIntA : List V → Hp → VK → Prop := fun vs H Q => match vs with
  | [.int i] => Q (.int i) H
  | [.bl k] => Q (.int (if k then 1 else 0)) H
  | _ => False
theorem call_intA {X : Cx} : CallR X (.type "int") rIntA := by
  intro pins s σ H xs us Q I r h
  unfold rIntA at h
  split at h
  · exact call_int1 pins s σ H _ us Q I r (.inl ⟨_, rfl, h⟩)
  · exact call_int1 pins s σ H _ us Q I r (.inr ⟨_, rfl, h⟩)
  · exact h.elim
/-- a value's truth -/
def rTruA : V → Hp → (Bool → Hp → Prop) → Prop := fun x H Q => match x with
  | .non => Q false H
  | .bl b => Q b H
  | .int i => Q (i != 0) H
  | .ref p => ∃ xs, sq H p = some xs ∧ Q (!xs.isEmpty) H
  | _ => False
theorem tru_A {X : Cx} : TruR X rTruA := by
  intro pins s σ H x v Q I rx h
  refine tru_ok pins s σ H x v Q I rx ?_
  unfold rTruA at h
  split at h
  · exact ⟨false, rfl, h⟩
  · exact ⟨_, rfl, h⟩
  · exact ⟨_, rfl, h⟩
  · obtain ⟨xs, h1, q⟩ := h
    obtain ⟨b, h1⟩ := sq_lk h1
    refine ⟨_, ?_, q⟩
    rcases lk_seq (K := X.K) h1 with ⟨_, hl⟩ | ⟨_, ht⟩
    · exact .inl ⟨xs, hl, rfl⟩
    · exact .inr (.inl ⟨xs, ht, rfl⟩)
  · exact h.elim
theorem pt_A {X : Cx} {a : PySem.Expr} {ta : TE} (ha : PE X a ta) (he : ∀ whole, isTrue a X.env whole = (do let v ← whole; standAt a.pos; holding [v] (truthy v)) := by intro _; rfl) :
    PT X a (fun σ H Q => ta σ H fun x H' => rTruA x H' Q) := by
  refine ⟨fun pins s σ H Q I h => ?_⟩
  exact isTrue_plain (thn (ha.run pins s σ H _ I h) fun v s1 ⟨x, H1, I1, r1, q1⟩ => tru_A pins s1 σ H1 x v Q I1 r1 q1) (he _)
/-- o[i] = v in a tracked list -/
def rSetA : TSet := fun o i v H Q => ∃ p k xs j, o = .ref p ∧ i = .int k ∧ H p = some (.lst xs) ∧ ixN xs.length k = some j ∧ Q (upd H p (.lst (xs.set j v)))
theorem set_A {X : Cx} : PSet X rSetA := by
  intro pins s σ H o i v ov iv u Q I ro ri rv h
  obtain ⟨p, k, xs, j, e1, e2, e3, e4, q⟩ := h
  exact set_list pins s σ H o i v ov iv u Q I ro ri rv ⟨p, xs, k, j, e1, e2, e3, e4, q⟩
end HbE
end
section
set_option Elab.async false
set_option linter.all false
set_option maxRecDepth 100000
set_option maxHeartbeats 1000000
/-! Readings over data alone: what an expression or a statement does to the data in a def's slots. -/
namespace Dl
open PySem PySem.Spec PyProof.Rows L2 HbE Evl
/-- a drawer: three ints in a list -/
def Hat (o : HO) : Prop := ∃ g s c : Int, o = .lst [.int g, .int s, .int c]
/-- what a slot holds: data; a list that the def alone holds and may change; a drawer -/
inductive WD where
  | dat (d : PyData)
  | own (ds : List PyData)
  | hat
abbrev Sd := List (Option WD)
open Classical in
noncomputable def msk (M : Addr → Prop) (H : Hp) : Hp := fun a => if M a then none else H a
section
variable {M M' : Addr → Prop} {H H' H2 : Hp} {a p : Addr} {o : HO} {hs Ps : List Addr} {K : PySem.W.Frag}
theorem msk_some : msk M H a = some o ↔ ¬ M a ∧ H a = some o := by
  unfold msk
  by_cases h : M a
  · simp [h]
  · simp [h]
theorem msk_none (h : H a = none) : msk M H a = none := by
  unfold msk
  split
  · rfl
  · exact h
theorem msk_ex : Ex (msk M H) H := fun a o h => (msk_some.mp h).2
/-- what may change between: the drawers' content, the tables -/
structure Step (hs Ps : List Addr) (H H' : Hp) : Prop where
  keep : ∀ a o, H a = some o → a ∉ hs → a ∉ Ps → H' a = some o
  hat : ∀ p ∈ hs, (∃ o, H p = some o ∧ Hat o) → ∃ o, H' p = some o ∧ Hat o
  tab : ∀ P ∈ Ps, GxR.TabG H P → GxR.TabG H' P
theorem Step.of_ex (e : Ex H H') : Step hs Ps H H' := ⟨fun a o h _ _ => e a o h, fun p _ ⟨o, h1, h2⟩ => ⟨o, e p o h1, h2⟩, fun P _ ⟨ps, h1, h2⟩ => ⟨ps, e P _ h1, h2⟩⟩
theorem Step.refl : Step hs Ps H H := Step.of_ex (Ex.refl H)
theorem Step.trans (h : Step hs Ps H H') (k : Step hs Ps H' H2) : Step hs Ps H H2 := ⟨fun a o e n m => k.keep a o (h.keep a o e n m) n m, fun p hp e => k.hat p hp (h.hat p hp e), fun P hP e => k.tab P hP (h.tab P hP e)⟩
/-- a masked heap: what is masked stands, the drawers and the tables are masked -/
structure Wf (Ps : List Addr) (M : Addr → Prop) (hs : List Addr) (H : Hp) : Prop where
  al : ∀ a, M a → H a ≠ none
  hat : ∀ p ∈ hs, M p ∧ ∃ o, H p = some o ∧ Hat o
  tab : ∀ P ∈ Ps, M P ∧ GxR.TabG H P
theorem Step.some (h : Step hs Ps H H') (w : Wf Ps M hs H) (e : H a ≠ none) : H' a ≠ none := by
  by_cases h1 : a ∈ hs
  · obtain ⟨o, q, _⟩ := h.hat a h1 (w.hat a h1).2
    rw [q]; simp
  · by_cases h2 : a ∈ Ps
    · obtain ⟨ps, q, _⟩ := h.tab a h2 (w.tab a h2).2
      rw [q]; simp
    · cases q : H a with
      | none => exact absurd q e
      | some o => rw [h.keep a o q h1 h2]; simp
theorem Wf.step (w : Wf Ps M hs H) (h : Step hs Ps H H') : Wf Ps M hs H' :=
  ⟨fun a m => h.some w (w.al a m), fun p hp => ⟨(w.hat p hp).1, h.hat p hp (w.hat p hp).2⟩, fun P hP => ⟨(w.tab P hP).1, h.tab P hP (w.tab P hP).2⟩⟩
theorem Wf.ex (w : Wf Ps M hs H) (h : Step hs Ps H H') : Ex (msk M H) (msk M H') := fun a o e => by
  obtain ⟨n, e⟩ := msk_some.mp e
  exact msk_some.mpr ⟨n, h.keep a o e (fun z => n (w.hat a z).1) (fun z => n (w.tab a z).1)⟩
theorem Wf.fresh (w : Wf Ps M hs H) (h : H p = none) : ¬ M p := fun m => w.al p m h
theorem msk_upd (h : ¬ M p) : msk M (upd H p o) p = some o := msk_some.mpr ⟨h, upd_same⟩
/-- less masked: more to read -/
theorem msk_less (h : ∀ a, M a → M' a) : Ex (msk M' H) (msk M H) := fun a o e => by
  obtain ⟨n, e⟩ := msk_some.mp e
  exact msk_some.mpr ⟨fun m => n (h a m), e⟩
end
mutual
theorem dp_mono {K : PySem.W.Frag} {H H' : Hp} (e : Ex H H') : ∀ {v : V} {d : PyData}, Dp K H v d → Dp K H' v d
  | _, _, .non => .non
  | _, _, .bl b => .bl b
  | _, _, .int i => .int i
  | _, _, .str x => .str x
  | _, _, .lst h1 h2 => .lst (ex_l e h1) (dpAll_mono e h2)
  | _, _, .tup h1 h2 => .tup (ex_t e h1) (dpAll_mono e h2)
theorem dpAll_mono {K : PySem.W.Frag} {H H' : Hp} (e : Ex H H') : ∀ {vs : List V} {ds : List PyData}, DpAll K H vs ds → DpAll K H' vs ds
  | _, _, .nil => .nil
  | _, _, .cons h1 h2 => .cons (dp_mono e h1) (dpAll_mono e h2)
end
section
variable {K : PySem.W.Frag} {H H' : Hp} {vs ws : List V} {ds es : List PyData}
theorem _root_.L2.DpAll.len (h : DpAll K H vs ds) : vs.length = ds.length := by
  have : ∀ (ds : List PyData) (vs : List V), DpAll K H vs ds → vs.length = ds.length := by
    intro ds
    induction ds with
    | nil => intro vs h; cases h; rfl
    | cons d ds ih => intro vs h; cases h with | cons _ h2 => simp [ih _ h2]
  exact this ds vs h
theorem _root_.L2.DpAll.app (h : DpAll K H vs ds) (k : DpAll K H ws es) : DpAll K H (vs ++ ws) (ds ++ es) := by
  have : ∀ (ds : List PyData) (vs : List V), DpAll K H vs ds → DpAll K H (vs ++ ws) (ds ++ es) := by
    intro ds
    induction ds with
    | nil => intro vs h; cases h; exact k
    | cons d ds ih => intro vs h; cases h with | cons h1 h2 => exact .cons h1 (ih _ h2)
  exact this ds vs h
theorem _root_.L2.DpAll.get {i : Nat} {d : PyData} (h : DpAll K H vs ds) (e : ds[i]? = some d) : ∃ v, vs[i]? = some v ∧ Dp K H v d := by
  have : ∀ (ds : List PyData) (vs : List V) (i : Nat), DpAll K H vs ds → ds[i]? = some d → ∃ v, vs[i]? = some v ∧ Dp K H v d := by
    intro ds
    induction ds with
    | nil => intro vs i h e; simp at e
    | cons d2 ds ih =>
      intro vs i h e
      cases h with
      | cons h1 h2 =>
        cases i with
        | zero => simp at e; subst e; exact ⟨_, rfl, h1⟩
        | succ i => simpa using ih _ i h2 (by simpa using e)
  exact this ds vs i h e
theorem _root_.L2.DpAll.setAt {i : Nat} {d : PyData} {v : V} (h : DpAll K H vs ds) (hv : Dp K H v d) : DpAll K H (vs.set i v) (ds.set i d) := by
  have : ∀ (ds : List PyData) (vs : List V) (i : Nat), DpAll K H vs ds → DpAll K H (vs.set i v) (ds.set i d) := by
    intro ds
    induction ds with
    | nil => intro vs i h; cases h; exact .nil
    | cons d2 ds ih =>
      intro vs i h
      cases h with
      | cons h1 h2 =>
        cases i with
        | zero => exact .cons hv h2
        | succ i => exact .cons h1 (ih _ i h2)
  exact this ds vs i h
theorem _root_.L2.DpAll.take (n : Nat) (h : DpAll K H vs ds) : DpAll K H (vs.take n) (ds.take n) := by
  have : ∀ (ds : List PyData) (vs : List V) (n : Nat), DpAll K H vs ds → DpAll K H (vs.take n) (ds.take n) := by
    intro ds
    induction ds with
    | nil => intro vs n h; cases h; cases n <;> exact .nil
    | cons d2 ds ih =>
      intro vs n h
      cases h with
      | cons h1 h2 =>
        cases n with
        | zero => exact .nil
        | succ n => exact .cons h1 (ih _ n h2)
  exact this ds vs n h
theorem _root_.L2.DpAll.drop (n : Nat) (h : DpAll K H vs ds) : DpAll K H (vs.drop n) (ds.drop n) := by
  have : ∀ (ds : List PyData) (vs : List V) (n : Nat), DpAll K H vs ds → DpAll K H (vs.drop n) (ds.drop n) := by
    intro ds
    induction ds with
    | nil => intro vs n h; cases h; cases n <;> exact .nil
    | cons d2 ds ih =>
      intro vs n h
      cases h with
      | cons h1 h2 =>
        cases n with
        | zero => exact .cons h1 h2
        | succ n => exact ih _ n h2
  exact this ds vs n h
theorem _root_.L2.DpAll.ints {ns : List Int} : DpAll K H (ns.map V.int) (ns.map PyData.int) := by
  induction ns with
  | nil => exact .nil
  | cons n ns ih => exact .cons (.int n) ih
end
/-! ### the state of a def -/
structure C0 where
  hs0 : List Addr
  M0 : Addr → Prop
  H0 : Hp
  B : Hp
def Mk (c : C0) (hs as : List Addr) : Addr → Prop := fun a => c.M0 a ∨ a ∈ hs ∨ a ∈ as
structure Fr (Ps : List Addr) (c : C0) (hs as : List Addr) (H : Hp) : Prop where
  wf0 : Wf Ps c.M0 c.hs0 c.H0
  st : Step c.hs0 Ps c.H0 H
  hat : ∀ p ∈ hs, (∃ o, H p = some o ∧ Hat o) ∧ (p ∈ c.hs0 ∨ c.H0 p = none)
  sub : ∀ p ∈ c.hs0, p ∈ hs
  own : ∀ a ∈ as, c.H0 a = none ∧ H a ≠ none ∧ a ∉ hs ∧ a ∉ Ps
  bs : Ex c.B (msk (Mk c hs as) H)
section
variable {K : PySem.W.Frag} {Ps : List Addr} {c : C0} {hs as : List Addr} {H H' : Hp} {σ : L2.St} {σd : Sd}
theorem Fr.wf (f : Fr Ps c hs as H) : Wf Ps (Mk c hs as) hs H := by
  have w := f.wf0.step f.st
  refine ⟨fun a m => ?_, fun p hp => ⟨.inr (.inl hp), (f.hat p hp).1⟩, fun P hP => ⟨.inl (w.tab P hP).1, (w.tab P hP).2⟩⟩
  rcases m with m | m | m
  · exact w.al a m
  · obtain ⟨⟨o, e, _⟩, _⟩ := f.hat a m
    rw [e]; simp
  · exact (f.own a m).2.1
theorem Fr.step (f : Fr Ps c hs as H) (s : Step hs Ps H H') : Fr Ps c hs as H' := by
  have w := f.wf
  refine ⟨f.wf0, ⟨fun a o e n m => s.keep a o (f.st.keep a o e n m) (fun z => ?_) m, fun p hp e => s.hat p (f.sub p hp) (f.hat p (f.sub p hp)).1, fun P hP e => s.tab P hP (w.tab P hP).2⟩,
    fun p hp => ⟨s.hat p hp (f.hat p hp).1, (f.hat p hp).2⟩, f.sub, fun a ha => ⟨(f.own a ha).1, s.some w (f.own a ha).2.1, (f.own a ha).2.2⟩, f.bs.trans (w.ex s)⟩
  rcases (f.hat a z).2 with q | q
  · exact n q
  · rw [e] at q; cases q
/-- a value and what a slot holds -/
def VR (K : PySem.W.Frag) (M : Addr → Prop) (hs as : List Addr) (H : Hp) (v : V) : WD → Prop
  | .dat d => Dp K (msk M H) v d
  | .own ds => ∃ a vs, v = .ref a ∧ a ∈ as ∧ H a = some (.lst vs) ∧ DpAll K (msk M H) vs ds
  | .hat => ∃ p, v = .ref p ∧ p ∈ hs
structure Sts (K : PySem.W.Frag) (Ps : List Addr) (c : C0) (hs as : List Addr) (σ : L2.St) (H : Hp) (σd : Sd) : Prop where
  fr : Fr Ps c hs as H
  len : σ.length = σd.length
  slot : ∀ (i : Nat) (w : WD), σd[i]? = some (some w) → ∃ v, σ[i]? = some (some v) ∧ VR K (Mk c hs as) hs as H v w
  dis : ∀ (i j : Nat) (ds es : List PyData), i ≠ j → σd[i]? = some (some (.own ds)) → σd[j]? = some (some (.own es)) → σ[i]? ≠ σ[j]?
theorem VR.step {v : V} {w : WD} (f : Fr Ps c hs as H) (s : Step hs Ps H H') (h : VR K (Mk c hs as) hs as H v w) : VR K (Mk c hs as) hs as H' v w := by
  have e := f.wf.ex s
  cases w with
  | dat d => exact dp_mono e h
  | own ds =>
    obtain ⟨a, vs, rfl, ha, h1, h2⟩ := h
    exact ⟨a, vs, rfl, ha, s.keep a _ h1 (f.own a ha).2.2.1 (f.own a ha).2.2.2, dpAll_mono e h2⟩
  | hat => exact h
theorem Sts.step (S : Sts K Ps c hs as σ H σd) (s : Step hs Ps H H') : Sts K Ps c hs as σ H' σd :=
  ⟨S.fr.step s, S.len, fun i w e => by
    obtain ⟨v, h1, h2⟩ := S.slot i w e
    exact ⟨v, h1, h2.step S.fr s⟩, S.dis⟩
end
/-! ### expressions -/
abbrev DE := Sd → (PyData → Prop) → Prop
abbrev DQ := Sd → (Bool → List PyData → Prop) → Prop
abbrev DT := Sd → (Bool → Prop) → Prop
abbrev DA := Sd → (List WD → Prop) → Prop
def lift (K : PySem.W.Frag) (Ps : List Addr) (de : DE) : TE := fun σ H Q => ∃ c hs as σd Qd, Sts K Ps c hs as σ H σd ∧ de σd Qd ∧ ∀ d v H', Qd d → Step hs Ps H H' → Dp K (msk (Mk c hs as) H') v d → Q v H'
def liftT (K : PySem.W.Frag) (Ps : List Addr) (dt : DT) : TT := fun σ H Q => ∃ c hs as σd Qd, Sts K Ps c hs as σ H σd ∧ dt σd Qd ∧ ∀ b H', Qd b → Step hs Ps H H' → Q b H'
/-- a list (true) or a tuple whose items are data; it may be one that the def changes later -/
def SeqR (K : PySem.W.Frag) (M : Addr → Prop) (as : List Addr) (H : Hp) (v : V) (b : Bool) (ds : List PyData) : Prop :=
  Dp K (msk M H) v (if b then .list ds else .tuple ds) ∨ (b = true ∧ ∃ a vs, v = .ref a ∧ a ∈ as ∧ H a = some (.lst vs) ∧ DpAll K (msk M H) vs ds)
theorem SeqR.step {K : PySem.W.Frag} {Ps : List Addr} {c : C0} {hs as : List Addr} {H H' : Hp} {v : V} {b : Bool} {ds : List PyData} (f : Fr Ps c hs as H) (s : Step hs Ps H H') (h : SeqR K (Mk c hs as) as H v b ds) : SeqR K (Mk c hs as) as H' v b ds := by
  rcases h with h | ⟨e, a, vs, rfl, ha, h1, h2⟩
  · exact .inl (dp_mono (f.wf.ex s) h)
  · exact .inr ⟨e, a, vs, rfl, ha, s.keep a _ h1 (f.own a ha).2.2.1 (f.own a ha).2.2.2, dpAll_mono (f.wf.ex s) h2⟩
def liftQ (K : PySem.W.Frag) (Ps : List Addr) (dq : DQ) : TE := fun σ H Q => ∃ c hs as σd Qd, Sts K Ps c hs as σ H σd ∧ dq σd Qd ∧ ∀ b ds v H', Qd b ds → Step hs Ps H H' → SeqR K (Mk c hs as) as H' v b ds → Q v H'
/-- a new list -/
def liftL (K : PySem.W.Frag) (Ps : List Addr) (dl : Sd → (List PyData → Prop) → Prop) : TE := fun σ H Q => ∃ c hs as σd Qd, Sts K Ps c hs as σ H σd ∧ dl σd Qd ∧
  ∀ ds p vs H', Qd ds → Step hs Ps H H' → H p = none → H' p = some (.lst vs) → DpAll K (msk (Mk c hs as) H') vs ds → Q (.ref p) H'
def liftA (K : PySem.W.Frag) (Ps : List Addr) (da : DA) : TA := fun σ H Q => ∃ c hs as σd Qd, Sts K Ps c hs as σ H σd ∧ da σd Qd ∧ ∀ ws vs H', Qd ws → Step hs Ps H H' → Paired (VR K (Mk c hs as) hs [] H') vs ws → Q vs H'
theorem pe_weak {X : Cx} {e : PySem.Expr} {te te' : TE} (h : PE X e te) (k : ∀ σ H Q, te' σ H Q → te σ H Q) : PE X e te' := ⟨fun pins s σ H Q I q => h.run pins s σ H Q I (k σ H Q q)⟩
theorem pt_weak {X : Cx} {e : PySem.Expr} {te te' : TT} (h : PT X e te) (k : ∀ σ H Q, te' σ H Q → te σ H Q) : PT X e te' := ⟨fun pins s σ H Q I q => h.run pins s σ H Q I (k σ H Q q)⟩
theorem pa_weak {X : Cx} {es : List PySem.Expr} {te te' : TA} (h : PA X es te) (k : ∀ σ H Q, te' σ H Q → te σ H Q) : PA X es te' := ⟨fun pos pins s σ H Q I q => h.run pos pins s σ H Q I (k σ H Q q)⟩
section
variable {X : Cx} {Ps : List Addr} {e a b : PySem.Expr} {pos : Pos}
/-! names, constants -/
def dVar (i : Nat) : DE := fun σ Q => match σ[i]? with
  | some (some (.dat d)) => Q d
  | _ => False
def dC (d : PyData) : DE := fun _ Q => Q d
theorem pd_var {i : Nat} (h : PE X e (tVar i)) : PE X e (lift X.K Ps (dVar i)) := pe_weak h fun σ H Q ⟨c, hs, as, σd, Qd, S, hd, k⟩ => by
  unfold dVar at hd
  split at hd
  · rename_i d q
    obtain ⟨v, h1, h2⟩ := S.slot i _ q
    exact ⟨v, h1, k d v H hd Step.refl h2⟩
  · exact hd.elim
theorem pd_c {v : V} {d : PyData} (h : PE X e (tC v)) (hd : ∀ K H, Dp K H v d) : PE X e (lift X.K Ps (dC d)) := pe_weak h fun σ H Q ⟨c, hs, as, σd, Qd, S, hq, k⟩ => k d v H hq Step.refl (hd _ _)
/-- two-place operations -/
def Op2 (K : PySem.W.Frag) (Ps : List Addr) (r : R2) (f : PyData → PyData → (PyData → Prop) → Prop) : Prop := ∀ (M : Addr → Prop) (hs : List Addr) (H : Hp) (v w : V) (x y : PyData) (Qd : PyData → Prop) (Q : VK), Wf Ps M hs H → Dp K (msk M H) v x → Dp K (msk M H) w y → f x y Qd →
  (∀ d z H', Qd d → Step hs Ps H H' → Dp K (msk M H') z d → Q z H') → r v w H Q
def dOp (f : PyData → PyData → (PyData → Prop) → Prop) (da db : DE) : DE := fun σ Q => da σ fun x => db σ fun y => f x y Q
theorem lift_op {r : R2} {f : PyData → PyData → (PyData → Prop) → Prop} {da db : DE} {σ : L2.St} {H : Hp} {Q : VK} (ho : Op2 X.K Ps r f) (h : lift X.K Ps (dOp f da db) σ H Q) : tOp r (lift X.K Ps da) (lift X.K Ps db) σ H Q := by
  obtain ⟨c, hs, as, σd, Qd, S, hd, k⟩ := h
  refine ⟨c, hs, as, σd, _, S, hd, fun x v H1 h1 s1 r1 => ?_⟩
  refine ⟨c, hs, as, σd, _, S.step s1, h1, fun y w H2 h2 s2 r2 => ?_⟩
  exact ho _ hs H2 v w x y Qd _ ((S.step s1).step s2).fr.wf (dp_mono ((S.step s1).fr.wf.ex s2) r1) r2 h2 fun d z H' h3 s3 r3 => k d z H' h3 ((s1.trans s2).trans s3) r3
theorem pd_op {op : Operator} {r : R2} {f : PyData → PyData → (PyData → Prop) → Prop} {da db : DE} (h : OpR X (binaryOp op) r) (ho : Op2 X.K Ps r f) (ha : PE X a (lift X.K Ps da)) (hb : PE X b (lift X.K Ps db)) : PE X (.BinOp a op b pos) (lift X.K Ps (dOp f da db)) :=
  pe_weak (pe_op h ha hb) fun _ _ _ => lift_op ho
theorem pd_cmp {op : CmpOp} {r : R2} {f : PyData → PyData → (PyData → Prop) → Prop} {da db : DE} (h : OpR X (compareOp op) r) (ho : Op2 X.K Ps r f) (ha : PE X a (lift X.K Ps da)) (hb : PE X b (lift X.K Ps db)) (hm : behindInMarks op b = false) :
    PE X (.Compare a [op] [b] pos) (lift X.K Ps (dOp f da db)) := pe_weak (pe_cmpR h ha hb hm) fun _ _ _ => lift_op ho
/-- a test out of a bool -/
def dTest (de : DE) : DT := fun σ Q => de σ fun x => match x with
  | .bool b => Q b
  | _ => False
theorem lift_test {de : DE} {σ : L2.St} {H : Hp} {Q : Bool → Hp → Prop} (h : liftT X.K Ps (dTest de) σ H Q) : tTest (lift X.K Ps de) σ H Q := by
  obtain ⟨c, hs, as, σd, Qd, S, hd, k⟩ := h
  refine ⟨c, hs, as, σd, _, S, hd, fun x v H1 h1 s1 r1 => ?_⟩
  split at h1
  · rename_i b
    cases r1
    exact ⟨b, rfl, k b H1 h1 s1⟩
  · exact h1.elim
theorem pt_d_cmp {op : CmpOp} {r : R2} {f : PyData → PyData → (PyData → Prop) → Prop} {da db : DE} (h : OpR X (compareOp op) r) (ho : Op2 X.K Ps r f) (ha : PE X a (lift X.K Ps da)) (hb : PE X b (lift X.K Ps db)) (hm : behindInMarks op b = false) :
    PT X (.Compare a [op] [b] pos) (liftT X.K Ps (dTest (dOp f da db))) := pt_weak (pt_cmpR h ha hb hm) fun σ H Q h => by
  have h2 := lift_test h
  unfold tTest at h2 ⊢
  obtain ⟨c, hs, as, σd, Qd, S, hd, k⟩ := h2
  exact lift_op ho ⟨c, hs, as, σd, Qd, S, hd, k⟩
end
/-! ### operations on ints -/
def fI (C : Int → Int → Prop) (g : Int → Int → PyData) : PyData → PyData → (PyData → Prop) → Prop := fun x y Q => match x, y with
  | .int i, .int j => C i j ∧ Q (g i j)
  | _, _ => False
theorem op2_I {K : PySem.W.Frag} {Ps : List Addr} {C : Int → Int → Prop} {g : Int → Int → V} {gd : Int → Int → PyData} (hg : ∀ i j K H, Dp K H (g i j) (gd i j)) : Op2 K Ps (rI C g) (fI C gd) := by
  intro M hs H v w x y Qd Q wf hx hy h k
  unfold fI at h
  split at h
  · cases hx; cases hy
    exact ⟨_, _, rfl, rfl, h.1, k _ _ H h.2 Step.refl (hg _ _ _ _)⟩
  · exact h.elim
def fI0 (g : Int → Int → PyData) : PyData → PyData → (PyData → Prop) → Prop := fun x y Q => match x, y with
  | .int i, .int j => Q (g i j)
  | _, _ => False
theorem op2_I0 {K : PySem.W.Frag} {Ps : List Addr} {g : Int → Int → V} {gd : Int → Int → PyData} (hg : ∀ i j K H, Dp K H (g i j) (gd i j)) : Op2 K Ps (rI0 g) (fI0 gd) := by
  intro M hs H v w x y Qd Q wf hx hy h k
  unfold fI0 at h
  split at h
  · cases hx; cases hy
    exact ⟨_, _, rfl, rfl, k _ _ H h Step.refl (hg _ _ _ _)⟩
  · exact h.elim
end Dl
end
section
set_option Elab.async false
set_option linter.all false
set_option maxRecDepth 100000
set_option maxHeartbeats 1000000
namespace Dl
open PySem PySem.Spec PyProof.Rows L2 HbE Evl
section
variable {X : Cx} {Ps : List Addr} {e a b o : PySem.Expr} {es : List PySem.Expr} {pos : Pos}
/-! ### arguments -/
abbrev DW := Sd → (WD → Prop) → Prop
def liftW (K : PySem.W.Frag) (Ps : List Addr) (dw : DW) : TE := fun σ H Q => ∃ c hs as σd Qd, Sts K Ps c hs as σ H σd ∧ dw σd Qd ∧ ∀ w v H', Qd w → Step hs Ps H H' → VR K (Mk c hs as) hs [] H' v w → Q v H'
def dD (de : DE) : DW := fun σ Q => de σ fun d => Q (.dat d)
def dHat (i : Nat) : DW := fun σ Q => match σ[i]? with
  | some (some .hat) => Q .hat
  | _ => False
theorem pw_dat {de : DE} (h : PE X e (lift X.K Ps de)) : PE X e (liftW X.K Ps (dD de)) := pe_weak h fun σ H Q ⟨c, hs, as, σd, Qd, S, hd, k⟩ => ⟨c, hs, as, σd, _, S, hd, fun d v H' hq st r => k (.dat d) v H' hq st r⟩
theorem pw_hat {i : Nat} (h : PE X e (tVar i)) : PE X e (liftW X.K Ps (dHat i)) := pe_weak h fun σ H Q ⟨c, hs, as, σd, Qd, S, hd, k⟩ => by
  unfold dHat at hd
  split at hd
  · rename_i q
    obtain ⟨v, h1, h2⟩ := S.slot i _ q
    exact ⟨v, h1, k .hat v H hd Step.refl h2⟩
  · exact hd.elim
theorem vr0 {K : PySem.W.Frag} {M : Addr → Prop} {hs : List Addr} {H H' : Hp} {v : V} {w : WD} (e : Ex (msk M H) (msk M H')) (h : VR K M hs [] H v w) : VR K M hs [] H' v w := by
  cases w with
  | dat d => exact dp_mono e h
  | own ds => obtain ⟨_, _, _, z, _⟩ := h; cases z
  | hat => exact h
def dNil : DA := fun _ Q => Q []
def dCons (dw : DW) (da : DA) : DA := fun σ Q => dw σ fun w => da σ fun ws => Q (w :: ws)
theorem pda_nil : PA X [] (liftA X.K Ps dNil) := pa_weak pa_nil fun σ H Q ⟨c, hs, as, σd, Qd, S, hd, k⟩ => k [] [] H hd Step.refl .nil
theorem pda_cons {dw : DW} {da : DA} (ha : PE X e (liftW X.K Ps dw)) (hr : PA X es (liftA X.K Ps da)) (hs : starEach (e :: es) X.env = (false, eval e X.env) :: starEach es X.env := by rfl) : PA X (e :: es) (liftA X.K Ps (dCons dw da)) :=
  pa_weak (pa_cons ha hr hs) fun σ H Q ⟨c, hs, as, σd, Qd, S, hd, k⟩ =>
    ⟨c, hs, as, σd, _, S, hd, fun w v H1 h1 s1 r1 => ⟨c, hs, as, σd, _, S.step s1, h1, fun ws vs H2 h2 s2 r2 => k (w :: ws) (v :: vs) H2 h2 (s1.trans s2) (.cons (vr0 ((S.step s1).fr.wf.ex s2) r1) r2)⟩⟩
def dats : List WD → Option (List PyData)
  | [] => some []
  | .dat d :: ws => match dats ws with
    | some ds => some (d :: ds)
    | none => none
  | _ :: _ => none
theorem dats_dp {K : PySem.W.Frag} {M : Addr → Prop} {hs : List Addr} {H : Hp} : ∀ {vs : List V} {ws : List WD} {ds : List PyData}, Paired (VR K M hs [] H) vs ws → dats ws = some ds → DpAll K (msk M H) vs ds
  | _, _, _, .nil, h => by cases h; exact .nil
  | _, .dat d :: ws, ds, .cons h1 h2, h => by
    unfold dats at h
    split at h
    · rename_i ds' q
      cases h
      exact .cons h1 (dats_dp h2 q)
    · cases h
  | _, .own _ :: _, _, .cons h1 h2, h => by cases h
  | _, .hat :: _, _, .cons h1 h2, h => by cases h
/-! ### own defs -/
abbrev DSp := List WD → (PyData → Prop) → Prop
def spOf (K : PySem.W.Frag) (Ps : List Addr) (SD : DSp) : Sp := fun vs H Q _ => ∃ M hs ws Qd, Wf Ps M hs H ∧ Paired (VR K M hs [] H) vs ws ∧ SD ws Qd ∧ ∀ d v H', Qd d → Step hs Ps H H' → Dp K (msk M H') v d → Q v H'
theorem spOf_imp {K : PySem.W.Frag} {SD SD' : DSp} (h : ∀ ws Q, SD' ws Q → SD ws Q) {vs : List V} {H : Hp} {Q : VK} {E : XK} (k : spOf K Ps SD' vs H Q E) : spOf K Ps SD vs H Q E := by
  obtain ⟨M, hs, ws, Qd, w, p, s, q⟩ := k
  exact ⟨M, hs, ws, Qd, w, p, h _ _ s, q⟩
def dCall (SD : DSp) (da : DA) : DE := fun σ Q => da σ fun ws => SD ws Q
theorem pd_call {x : Str} {f : Addr} {fd : FuncData} {ps : List Str} {SD : DSp} {k : Nat} {da : DA} {p : Pos} (F : FnOk X.prog X.w X.K X.mg X.base CX0 k f fd ps (spOf X.K Ps SD)) (hr : Room k X.A) (hg : Gl X x) (hm : X.mg x = some (.ref f))
    (hk : PySem.W.keepIn X.K (.ref f) = true) (hb : Binds X.K fd ps []) (ha : PA X (e :: es) (liftA X.K Ps da)) (hdb : (x == ("__debug__" : Str)) = false := by decide) (he : starEach (e :: es) X.env = (false, eval e X.env) :: starEach es X.env := by rfl)
    (hpl : (backTo pos (starEach es X.env)).any (·.1) = false := by rfl) : PE X (.Call (.Name x p) (e :: es) [] pos) (lift X.K Ps (dCall SD da)) :=
  pe_weak (pe_call F hr hg hm hk hb .nil pass0 ha hdb he hpl) fun σ H Q ⟨c, hs, as, σd, Qd, S, hd, k⟩ =>
    ⟨c, hs, as, σd, _, S, hd, fun ws vs H1 h1 s1 r1 => ⟨Mk c hs as, hs, ws, Qd, (S.step s1).fr.wf, by rw [List.append_nil]; exact r1, h1, fun d v H' h s r => k d v H' h (s1.trans s) r⟩⟩
/-! ### displays -/
def dDats (da : DA) : Sd → (List PyData → Prop) → Prop := fun σ Q => da σ fun ws => match dats ws with
  | some ds => Q ds
  | none => False
theorem dp_newT {K : PySem.W.Frag} {M : Addr → Prop} {hs : List Addr} {H : Hp} {p : Addr} {vs : List V} {ds : List PyData} (w : Wf Ps M hs H) (hp : H p = none) (h : DpAll K (msk M H) vs ds) : Dp K (msk M (upd H p (.tup vs))) (.ref p) (.tuple ds) :=
  .tup (.inl (.inl (msk_upd (w.fresh hp)))) (dpAll_mono (w.ex (Step.of_ex (Ex.new hp))) h)
theorem dp_newL {K : PySem.W.Frag} {M : Addr → Prop} {hs : List Addr} {H : Hp} {p : Addr} {vs : List V} {ds : List PyData} (w : Wf Ps M hs H) (hp : H p = none) (h : DpAll K (msk M H) vs ds) : Dp K (msk M (upd H p (.lst vs))) (.ref p) (.list ds) :=
  .lst (.inl (.inl (msk_upd (w.fresh hp)))) (dpAll_mono (w.ex (Step.of_ex (Ex.new hp))) h)
def dTup (da : DA) : DE := fun σ Q => dDats da σ fun ds => ds.length ≤ 100000 ∧ Q (.tuple ds)
theorem pd_tup {x1} {da : DA} (h : PA X es (liftA X.K Ps da)) : PE X (.Tuple es x1 pos) (lift X.K Ps (dTup da)) := pe_weak (pe_tup h) fun σ H Q ⟨c, hs, as, σd, Qd, S, hd, k⟩ =>
  ⟨c, hs, as, σd, _, S, hd, fun ws vs H1 h1 s1 r1 => by
    split at h1
    · rename_i ds q
      have r := dats_dp r1 q
      refine ⟨sz_of (by rw [r.len]; exact h1.1), fun p hp => ?_⟩
      exact k _ _ _ h1.2 (s1.trans (Step.of_ex (Ex.new hp))) (dp_newT (S.step s1).fr.wf hp r)
    · exact h1.elim⟩
/-- a new list, as it is (its own) -/
theorem own_new {K : PySem.W.Frag} {c : C0} {hs as : List Addr} {H : Hp} {p : Addr} {vs : List V} {ds : List PyData} (hp : H p = none) (h : DpAll K (msk (Mk c hs as) H) vs ds) : DpAll K (msk (Mk c hs (p :: as)) (upd H p (.lst vs))) vs ds :=
  dpAll_mono (fun a o e => by
    obtain ⟨n, e⟩ := msk_some.mp e
    have na : a ≠ p := fun z => by rw [z, hp] at e; cases e
    refine msk_some.mpr ⟨fun m => ?_, by rw [upd_ne na]; exact e⟩
    rcases m with m | m | m
    · exact n (.inl m)
    · exact n (.inr (.inl m))
    · rcases List.mem_cons.mp m with z | z
      · exact na z
      · exact n (.inr (.inr z))) h
def dLst (da : DA) : Sd → (List PyData → Prop) → Prop := fun σ Q => dDats da σ fun ds => ds.length ≤ 100000 ∧ Q ds
abbrev DL := Sd → (List PyData → Prop) → Prop
/-- a new list, to be changed later -/
def liftN (K : PySem.W.Frag) (Ps : List Addr) (dl : DL) : TE := fun σ H Q => ∃ c hs as σd Qd, Sts K Ps c hs as σ H σd ∧ dl σd Qd ∧
  ∀ ds p vs H', Qd ds → Step hs Ps H H' → H p = none → H' p = some (.lst vs) → DpAll K (msk (Mk c hs (p :: as)) H') vs ds → Q (.ref p) H'
theorem pn_lst {da : DA} (h : PA X es (liftA X.K Ps da)) : PE X (.List es pos) (liftN X.K Ps (dLst da)) := pe_weak (pe_lst h) fun σ H Q ⟨c, hs, as, σd, Qd, S, hd, k⟩ =>
  ⟨c, hs, as, σd, _, S, hd, fun ws vs H1 h1 s1 r1 => by
    split at h1
    · rename_i ds q
      have r := dats_dp r1 q
      refine ⟨sz_of (by rw [r.len]; exact h1.1), fun p hp => ?_⟩
      refine k _ p vs _ h1.2 (s1.trans (Step.of_ex (Ex.new hp))) ?_ upd_same (own_new hp r)
      cases z : H p with
      | none => rfl
      | some o =>
        exfalso
        exact s1.some S.fr.wf (by rw [z]; simp) hp
    · exact h1.elim⟩
def dL (dl : DL) : DE := fun σ Q => dl σ fun ds => Q (.list ds)
theorem pd_new {dl : DL} (h : PE X e (liftN X.K Ps dl)) : PE X e (lift X.K Ps (dL dl)) := pe_weak h fun σ H Q ⟨c, hs, as, σd, Qd, S, hd, k⟩ =>
  ⟨c, hs, as, σd, _, S, hd, fun ds p vs H' hq st hp h' r => k _ _ _ hq st (by
    have np : ¬ Mk c hs as p := S.fr.wf.fresh hp
    exact .lst (.inl (.inl (msk_some.mpr ⟨np, h'⟩))) (dpAll_mono (msk_less fun a m => by
      rcases m with m | m | m
      · exact .inl m
      · exact .inr (.inl m)
      · exact .inr (.inr (List.mem_cons_of_mem _ m))) r))⟩
/-! ### things that are walked or counted: a list or a tuple -/
def dVarQ (i : Nat) : DQ := fun σ Q => match σ[i]? with
  | some (some (.dat (.list ds))) => Q true ds
  | some (some (.dat (.tuple ds))) => Q false ds
  | some (some (.own ds)) => Q true ds
  | _ => False
theorem SeqR.ex {K : PySem.W.Frag} {M : Addr → Prop} {as : List Addr} {H : Hp} {v : V} {b : Bool} {ds : List PyData} (h : SeqR K M as H v b ds) : ∃ p xs, v = .ref p ∧ (if b then SqL K H p xs else SqT K H p xs) ∧ DpAll K (msk M H) xs ds := by
  rcases h with h | ⟨rfl, a, vs, rfl, _, h1, h2⟩
  · cases b with
    | true =>
      simp only [if_true] at h
      cases h with
      | lst h1 h2 => exact ⟨_, _, rfl, ex_l msk_ex h1, h2⟩
    | false =>
      simp only [Bool.false_eq_true, if_false] at h
      cases h with
      | tup h1 h2 => exact ⟨_, _, rfl, ex_t msk_ex h1, h2⟩
  · exact ⟨a, vs, rfl, sq_of h1, h2⟩
theorem SeqR.ex2 {K : PySem.W.Frag} {M : Addr → Prop} {as : List Addr} {H : Hp} {v : V} {b : Bool} {ds : List PyData} (h : SeqR K M as H v b ds) : ∃ p xs, v = .ref p ∧ (SqL K H p xs ∨ SqT K H p xs) ∧ DpAll K (msk M H) xs ds := by
  obtain ⟨p, xs, e, h1, h2⟩ := h.ex
  refine ⟨p, xs, e, ?_, h2⟩
  cases b with
  | true => exact .inl h1
  | false => exact .inr h1
theorem pq_var {i : Nat} (h : PE X e (tVar i)) : PE X e (liftQ X.K Ps (dVarQ i)) := pe_weak h fun σ H Q ⟨c, hs, as, σd, Qd, S, hd, k⟩ => by
  unfold dVarQ at hd
  split at hd
  · rename_i ds q
    obtain ⟨v, h1, h2⟩ := S.slot i _ q
    exact ⟨v, h1, k true ds v H hd Step.refl (.inl h2)⟩
  · rename_i ds q
    obtain ⟨v, h1, h2⟩ := S.slot i _ q
    exact ⟨v, h1, k false ds v H hd Step.refl (.inl h2)⟩
  · rename_i ds q
    obtain ⟨v, h1, a, vs, rfl, ha, h2, h3⟩ := S.slot i _ q
    exact ⟨_, h1, k true ds _ H hd Step.refl (.inr ⟨rfl, a, vs, rfl, ha, h2, h3⟩)⟩
  · exact hd.elim
def dSeqE (de : DE) : DQ := fun σ Q => de σ fun d => match d with
  | .list ds => Q true ds
  | .tuple ds => Q false ds
  | _ => False
theorem pq_dat {de : DE} (h : PE X e (lift X.K Ps de)) : PE X e (liftQ X.K Ps (dSeqE de)) := pe_weak h fun σ H Q ⟨c, hs, as, σd, Qd, S, hd, k⟩ =>
  ⟨c, hs, as, σd, _, S, hd, fun d v H' hq st r => by
    split at hq
    · exact k true _ v H' hq st (.inl r)
    · exact k false _ v H' hq st (.inl r)
    · exact hq.elim⟩
/-- x[i] -/
def rIxS (K : PySem.W.Frag) : R2 := fun x y H Q => ∃ p i xs v, x = .ref p ∧ y = .int i ∧ (SqL K H p xs ∨ SqT K H p xs) ∧ atI xs i = some v ∧ Q v H
theorem ix_S : IxR X (rIxS X.K) := by
  intro value slice pins s σ H x y v u Q I rx ry h hs
  obtain ⟨p, i, xs, z, ex, ey, e, ha, q⟩ := h
  rcases e with hl | ht
  · exact ix_list value slice pins s σ H x y v u Q I rx ry ⟨p, xs, i, z, ex, ey, hl, ha, q⟩ hs
  · exact ix_tup value slice pins s σ H x y v u Q I rx ry ⟨p, xs, i, z, ex, ey, ht, ha, q⟩ hs
theorem dpAll_atI {K : PySem.W.Frag} {H : Hp} {vs : List V} {ds : List PyData} {i : Int} {d : PyData} (h : DpAll K H vs ds) (e : atI ds i = some d) : ∃ v, atI vs i = some v ∧ Dp K H v d := by
  unfold atI at e ⊢
  rw [h.len]
  obtain ⟨j, e1, e2⟩ := Option.bind_eq_some_iff.mp e
  obtain ⟨v, e3, e4⟩ := h.get e2
  exact ⟨v, Option.bind_eq_some_iff.mpr ⟨j, e1, e3⟩, e4⟩
def dIx (dq : DQ) (di : DE) : DE := fun σ Q => dq σ fun _ ds => di σ fun x => match x with
  | .int i => match atI ds i with
    | some d => Q d
    | none => False
  | _ => False
theorem pd_ix {dq : DQ} {di : DE} (ha : PE X a (liftQ X.K Ps dq)) (hb : PE X b (lift X.K Ps di)) (hs : PlainIx b) : PE X (.Subscript a b pos) (lift X.K Ps (dIx dq di)) := pe_weak (pe_ix ix_S ha hb hs) fun σ H Q ⟨c, hs, as, σd, Qd, S, hd, k⟩ =>
  ⟨c, hs, as, σd, _, S, hd, fun bb ds v H1 h1 s1 r1 => ⟨c, hs, as, σd, _, S.step s1, h1, fun x w H2 h2 s2 r2 => by
    split at h2
    · rename_i i
      split at h2
      · rename_i d q
        cases r2
        obtain ⟨p, xs, rfl, h3, h4⟩ := (r1.step (S.step s1).fr s2).ex2
        obtain ⟨z, h5, h6⟩ := dpAll_atI h4 q
        exact ⟨p, i, xs, z, rfl, rfl, h3, h5, k _ _ _ h2 (s1.trans s2) h6⟩
      · exact h2.elim
    · exact h2.elim⟩⟩
/-! ### built-ins of one list or tuple -/
def OpQ (K : PySem.W.Frag) (Ps : List Addr) (r : List V → Hp → VK → Prop) (f : Bool → List PyData → (PyData → Prop) → Prop) : Prop := ∀ (M : Addr → Prop) (hs : List Addr) (H : Hp) (p : Addr) (xs : List V) (b : Bool) (ds : List PyData) (Qd : PyData → Prop) (Q : VK),
  Wf Ps M hs H → (if b then SqL K H p xs else SqT K H p xs) → DpAll K (msk M H) xs ds → f b ds Qd → (∀ d z H', Qd d → Step hs Ps H H' → Dp K (msk M H') z d → Q z H') → r [.ref p] H Q
def dOpQ (f : Bool → List PyData → (PyData → Prop) → Prop) (dq : DQ) : DE := fun σ Q => dq σ fun b ds => f b ds Q
theorem lift_opQ {r : List V → Hp → VK → Prop} {f : Bool → List PyData → (PyData → Prop) → Prop} {dq : DQ} {σ : L2.St} {H : Hp} {Q : VK} (ho : OpQ X.K Ps r f) (h : lift X.K Ps (dOpQ f dq) σ H Q) : tCB r (tCons (liftQ X.K Ps dq) tNil) σ H Q := by
  obtain ⟨c, hs, as, σd, Qd, S, hd, k⟩ := h
  refine ⟨c, hs, as, σd, _, S, hd, fun b ds v H1 h1 s1 r1 => ?_⟩
  obtain ⟨p, xs, rfl, h3, h4⟩ := r1.ex
  exact ho _ hs H1 p xs b ds Qd Q (S.step s1).fr.wf h3 h4 h1 fun d z H' h s r => k d z H' h (s1.trans s) r
/-- len -/
def fLen : Bool → List PyData → (PyData → Prop) → Prop := fun _ ds Q => Q (.int ds.length)
theorem opq_len {K : PySem.W.Frag} : OpQ K Ps (fun xs H Q => ∃ p ys, xs = [.ref p] ∧ (SqL K H p ys ∨ SqT K H p ys) ∧ Q (.int ys.length) H) fLen := by
  intro M hs H p xs b ds Qd Q wf h1 h2 h k
  refine ⟨p, xs, rfl, ?_, k _ _ H h Step.refl (by rw [h2.len]; exact .int _)⟩
  cases b with
  | true => exact .inl h1
  | false => exact .inr h1
end
end Dl
end
section
set_option Elab.async false
set_option linter.all false
set_option maxRecDepth 100000
set_option maxHeartbeats 1000000
namespace Dl
open PySem PySem.Spec PyProof.Rows L2 HbE Evl
/-! ### statements -/
structure ED where
  nx : Sd → Prop
  rt : PyData → Prop := fun _ => False
  bk : Sd → Prop := fun _ => False
  ct : Sd → Prop := fun _ => False
abbrev DS := ED → Sd → Prop
structure Rfn (K : PySem.W.Frag) (Ps : List Addr) (c : C0) (Dd : ED) (D : Ends) : Prop where
  nx : ∀ hs as σ H σd, Sts K Ps c hs as σ H σd → Dd.nx σd → D.nx σ H
  rt : ∀ v H d, Step c.hs0 Ps c.H0 H → Dp K (msk c.M0 H) v d → Dd.rt d → D.rt v H
  bk : ∀ hs as σ H σd, Sts K Ps c hs as σ H σd → Dd.bk σd → D.bk σ H
  ct : ∀ hs as σ H σd, Sts K Ps c hs as σ H σd → Dd.ct σd → D.ct σ H
def liftS (K : PySem.W.Frag) (Ps : List Addr) (ds : DS) : TS := fun D σ H => ∃ c hs as σd Dd, Sts K Ps c hs as σ H σd ∧ ds Dd σd ∧ Rfn K Ps c Dd D
theorem ps_weak {X : Cx} {e : Stmt} {te te' : TS} (h : PS X e te) (k : ∀ D σ H, te' D σ H → te D σ H) : PS X e te' := ⟨fun pins s σ H D I q => h.run pins s σ H D I (k D σ H q)⟩
theorem pss_weak {X : Cx} {e : List Stmt} {te te' : TS} (h : PSs X e te) (k : ∀ D σ H, te' D σ H → te D σ H) : PSs X e te' := ⟨fun pins s σ H D I q => h.run pins s σ H D I (k D σ H q)⟩
section
variable {K : PySem.W.Frag} {Ps : List Addr} {c : C0} {hs as : List Addr} {H H' : Hp} {σ : L2.St} {σd : Sd} {i : Nat} {v : V} {p a : Addr}
theorem none_of (f : Fr Ps c hs as H) (s : Step hs Ps H H') (hp : H' p = none) : H p = none := by
  cases z : H p with
  | none => rfl
  | some o => exact absurd hp (s.some f.wf (by rw [z]; simp))
theorem set_get {α : Type} {l : List (Option α)} {i j : Nat} {x w : α} (h : (l.set i (some x))[j]? = some (some w)) : (i = j ∧ x = w) ∨ (i ≠ j ∧ l[j]? = some (some w)) := by
  by_cases e : i = j
  · subst e
    by_cases hl : i < l.length
    · rw [List.getElem?_set_self hl] at h
      cases h
      exact .inl ⟨rfl, rfl⟩
    · rw [List.getElem?_eq_none (by rw [List.length_set]; omega)] at h
      cases h
  · rw [List.getElem?_set_ne e] at h
    exact .inr ⟨e, h⟩
theorem set_has {α : Type} {l : List (Option α)} {m : List (Option WD)} {i : Nat} {x : α} {y w : WD} (hl : l.length = m.length) (h : (m.set i (some y))[i]? = some (some w)) : (l.set i (some x))[i]? = some (some x) := by
  have : i < m.length := by
    by_cases h2 : i < m.length
    · exact h2
    · rw [List.getElem?_eq_none (by rw [List.length_set]; omega)] at h
      cases h
  rw [List.getElem?_set_self (by omega)]
theorem Sts.set (S : Sts K Ps c hs as σ H σd) (w : WD) (hw : ∀ ds, w ≠ .own ds) (h : VR K (Mk c hs as) hs as H v w) : Sts K Ps c hs as (σ.set i (some v)) H (σd.set i (some w)) := by
  refine ⟨S.fr, by simp [S.len], fun j w2 e => ?_, fun j k ds es n e1 e2 => ?_⟩
  · rcases set_get e with ⟨rfl, rfl⟩ | ⟨n, e⟩
    · exact ⟨v, set_has S.len ‹_›, h⟩
    · rw [List.getElem?_set_ne n]
      exact S.slot j w2 e
  · rcases set_get e1 with ⟨_, z⟩ | ⟨n1, e1⟩
    · exact absurd z (hw _)
    · rcases set_get e2 with ⟨_, z⟩ | ⟨n2, e2⟩
      · exact absurd z (hw _)
      · rw [List.getElem?_set_ne n1, List.getElem?_set_ne n2]
        exact S.dis j k ds es n e1 e2
theorem ex_own (f : Fr Ps c hs as H) (s : Step hs Ps H H') (hp : H p = none) : Ex (msk (Mk c hs as) H) (msk (Mk c hs (p :: as)) H') := fun b o e => by
  obtain ⟨n, e1⟩ := msk_some.mp (f.wf.ex s b o e)
  have nb : b ≠ p := fun z => by
    have := (msk_some.mp e).2
    rw [z, hp] at this
    cases this
  refine msk_some.mpr ⟨fun m => ?_, e1⟩
  rcases m with m | m | m
  · exact n (.inl m)
  · exact n (.inr (.inl m))
  · rcases List.mem_cons.mp m with z | z
    · exact nb z
    · exact n (.inr (.inr z))
/-- a new list, alone the def's -/
theorem Sts.new {vs : List V} {ds : List PyData} (S : Sts K Ps c hs as σ H σd) (s : Step hs Ps H H') (hp : H p = none) (h' : H' p = some (.lst vs)) (h : DpAll K (msk (Mk c hs (p :: as)) H') vs ds) :
    Sts K Ps c hs (p :: as) (σ.set i (some (.ref p))) H' (σd.set i (some (.own ds))) := by
  have T := S.step s
  have f := S.fr
  have f' : Fr Ps c hs (p :: as) H' := ⟨f.wf0, T.fr.st, T.fr.hat, f.sub, fun b hb => by
    rcases List.mem_cons.mp hb with rfl | hb
    · refine ⟨?_, by rw [h']; simp, fun z => ?_, fun z => ?_⟩
      · cases q : c.H0 b with
        | none => rfl
        | some o => exact absurd hp (f.st.some f.wf0 (by rw [q]; simp))
      · obtain ⟨o, e, _⟩ := (f.hat b z).1
        rw [hp] at e; cases e
      · obtain ⟨_, ps, e, _⟩ := f.wf.tab b z
        rw [hp] at e; cases e
    · exact T.fr.own b hb, f.bs.trans (ex_own (p := p) f s hp)⟩
  have e := ex_own (p := p) f s hp
  have old : ∀ (v : V) (w : WD), VR K (Mk c hs as) hs as H v w → VR K (Mk c hs (p :: as)) hs (p :: as) H' v w := fun v w q => by
    cases w with
    | dat d => exact dp_mono e q
    | own es =>
      obtain ⟨a, us, rfl, ha, h1, h2⟩ := q
      exact ⟨a, us, rfl, List.mem_cons_of_mem _ ha, s.keep a _ h1 (f.own a ha).2.2.1 (f.own a ha).2.2.2, dpAll_mono e h2⟩
    | hat => exact q
  have notp : ∀ (j : Nat) (es : List PyData), σd[j]? = some (some (.own es)) → σ[j]? ≠ some (some (.ref p)) := fun j es q z => by
    obtain ⟨v, h1, a, us, rfl, ha, h2, _⟩ := S.slot j _ q
    rw [h1] at z
    cases z
    rw [hp] at h2; cases h2
  refine ⟨f', by simp [S.len], fun j w2 e => ?_, fun j k es fs n e1 e2 => ?_⟩
  · rcases set_get e with ⟨rfl, rfl⟩ | ⟨n, e⟩
    · exact ⟨_, set_has S.len ‹_›, p, vs, rfl, List.mem_cons_self, h', h⟩
    · rw [List.getElem?_set_ne n]
      obtain ⟨v, h1, h2⟩ := S.slot j w2 e
      exact ⟨v, h1, old v w2 h2⟩
  · rcases set_get e1 with ⟨r1, z⟩ | ⟨n1, e1'⟩
    · rcases set_get e2 with ⟨r2, z⟩ | ⟨n2, e2'⟩
      · exact absurd (r1.symm.trans r2) n
      · subst r1
        rw [set_has (x := V.ref p) S.len e1, List.getElem?_set_ne n2]
        exact fun z => notp k fs e2' z.symm
    · rcases set_get e2 with ⟨r2, z⟩ | ⟨n2, e2'⟩
      · subst r2
        rw [set_has (x := V.ref p) S.len e2, List.getElem?_set_ne n1]
        exact notp j es e1'
      · rw [List.getElem?_set_ne n1, List.getElem?_set_ne n2]
        exact S.dis j k es fs n e1' e2'
/-- the def's own list changes -/
theorem Sts.chg {vs' : List V} {ds ds' : List PyData} (S : Sts K Ps c hs as σ H σd) (hi : σd[i]? = some (some (.own ds))) (ha : σ[i]? = some (some (.ref a))) (h : DpAll K (msk (Mk c hs as) H) vs' ds') :
    Sts K Ps c hs as σ (upd H a (.lst vs')) (σd.set i (some (.own ds'))) := by
  obtain ⟨v, h1, b, vs, rfl, hb, h2, h3⟩ := S.slot i _ hi
  rw [ha] at h1
  cases h1
  have f := S.fr
  obtain ⟨o1, o2, o3, o4⟩ := f.own a hb
  have nh : ∀ p ∈ hs, p ≠ a := fun p hp z => o3 (z ▸ hp)
  have nP : ∀ p ∈ Ps, p ≠ a := fun p hp z => o4 (z ▸ hp)
  have up : ∀ b, b ≠ a → upd H a (.lst vs') b = H b := fun b n => upd_ne n
  have ex : Ex (msk (Mk c hs as) H) (msk (Mk c hs as) (upd H a (.lst vs'))) := fun x o e => by
    obtain ⟨n, e⟩ := msk_some.mp e
    exact msk_some.mpr ⟨n, by rw [up x fun z => n (.inr (.inr (z ▸ hb)))]; exact e⟩
  have f' : Fr Ps c hs as (upd H a (.lst vs')) := ⟨f.wf0, ⟨fun x o e n m => by rw [up x fun z => by rw [z, o1] at e; cases e]; exact f.st.keep x o e n m, fun p hp e => by rw [up p (nh p (f.sub p hp))]; exact (f.hat p (f.sub p hp)).1,
      fun P hP e => by
        obtain ⟨ps, q1, q2⟩ := (f.wf.tab P hP).2
        exact ⟨ps, by rw [up P (nP P hP)]; exact q1, q2⟩⟩,
    fun p hp => by rw [up p (nh p hp)]; exact f.hat p hp, f.sub, fun x hx => by
      refine ⟨(f.own x hx).1, ?_, (f.own x hx).2.2⟩
      by_cases z : x = a
      · rw [z, upd_same]; simp
      · rw [up x z]; exact (f.own x hx).2.1, f.bs.trans ex⟩
  have il : i < σ.length := by
    have := List.getElem?_eq_some_iff.mp ha
    exact this.1
  refine ⟨f', by simp [S.len], fun j w2 e => ?_, fun j k es fs n e1 e2 => ?_⟩
  · rcases set_get e with ⟨rfl, rfl⟩ | ⟨n, e⟩
    · exact ⟨_, ha, a, vs', rfl, hb, upd_same, dpAll_mono ex h⟩
    · obtain ⟨v, q1, q2⟩ := S.slot j w2 e
      refine ⟨v, q1, ?_⟩
      cases w2 with
      | dat d => exact dp_mono ex q2
      | own es =>
        obtain ⟨x, us, rfl, hx, r1, r2⟩ := q2
        have nx : x ≠ a := fun z => S.dis i j ds es n hi e (by rw [ha, q1, z])
        exact ⟨x, us, rfl, hx, by rw [up x nx]; exact r1, dpAll_mono ex r2⟩
      | hat => exact q2
  · rcases set_get e1 with ⟨rfl, z⟩ | ⟨n1, e1'⟩
    · rcases set_get e2 with ⟨rfl, z⟩ | ⟨n2, e2'⟩
      · exact absurd rfl n
      · exact S.dis i k ds fs n hi e2'
    · rcases set_get e2 with ⟨rfl, z⟩ | ⟨n2, e2'⟩
      · exact S.dis j i es ds n e1' hi
      · exact S.dis j k es fs n e1' e2'
end
section
variable {X : Cx} {Ps : List Addr} {e a b o : PySem.Expr} {es : List PySem.Expr} {pos : Pos} {st : Stmt} {rest : List Stmt} {t u : DS} {de : DE}
def dNext : DS := fun D σ => D.nx σ
def dSeq (t u : DS) : DS := fun D σ => t { D with nx := u D } σ
theorem psd_nil : PSs X [] (liftS X.K Ps dNext) := pss_weak pss_nil fun D σ H ⟨c, hs, as, σd, Dd, S, h, r⟩ => r.nx hs as σ H σd S h
theorem psd_cons (h1 : PS X st (liftS X.K Ps t)) (h2 : PSs X rest (liftS X.K Ps u)) : PSs X (st :: rest) (liftS X.K Ps (dSeq t u)) := pss_weak (pss_cons h1 h2) fun D σ H ⟨c, hs, as, σd, Dd, S, h, r⟩ =>
  ⟨c, hs, as, σd, _, S, h, ⟨fun hs' as' σ' H' σd' S' h' => ⟨c, hs', as', σd', Dd, S', h', r⟩, r.rt, r.bk, r.ct⟩⟩
theorem psd_one (h1 : PS X st (liftS X.K Ps t)) : PSs X [st] (liftS X.K Ps t) := pss_one h1
def dRet (de : DE) : DS := fun D σ => de σ D.rt
theorem Sts.ret {K : PySem.W.Frag} {c : C0} {hs as : List Addr} {σ : L2.St} {H H' : Hp} {σd : Sd} (S : Sts K Ps c hs as σ H σd) (s : Step hs Ps H H') : Step c.hs0 Ps c.H0 H' := (S.step s).fr.st
theorem less_mk {K : PySem.W.Frag} {c : C0} {hs as : List Addr} {H : Hp} {v : V} {d : PyData} (h : Dp K (msk (Mk c hs as) H) v d) : Dp K (msk c.M0 H) v d := dp_mono (msk_less fun _ m => .inl m) h
theorem psd_ret (h : PE X e (lift X.K Ps de)) : PS X (.Return (some e) pos) (liftS X.K Ps (dRet de)) := ps_weak (ps_ret h) fun D σ H ⟨c, hs, as, σd, Dd, S, h, r⟩ =>
  ⟨c, hs, as, σd, _, S, h, fun d v H' hd s q => r.rt v H' d (S.ret s) (less_mk q) hd⟩
/-- return of the def's own list -/
def dRetO (i : Nat) : DS := fun D σ => match σ[i]? with
  | some (some (.own ds)) => D.rt (.list ds)
  | _ => False
theorem psd_retO {i : Nat} (h : PE X e (tVar i)) : PS X (.Return (some e) pos) (liftS X.K Ps (dRetO i)) := ps_weak (ps_ret h) fun D σ H ⟨c, hs, as, σd, Dd, S, h, r⟩ => by
  unfold dRetO at h
  split at h
  · rename_i ds q
    obtain ⟨v, h1, a, vs, rfl, ha, h2, h3⟩ := S.slot i _ q
    refine ⟨_, h1, r.rt _ H _ S.fr.st (.lst (.inl (.inl (msk_some.mpr ⟨fun m => ?_, h2⟩))) (dpAll_mono (msk_less fun _ m => .inl m) h3)) h⟩
    exact S.fr.wf0.al a m (S.fr.own a ha).1
  · exact h.elim
def dIf (c : DT) (t u : DS) : DS := fun D σ => c σ fun b => if b = true then t D σ else u D σ
theorem psd_if {cnd : PySem.Expr} {ab bb : List Stmt} {tc : DT} (hc : PT X cnd (liftT X.K Ps tc)) (ha : PSs X ab (liftS X.K Ps t)) (hb : PSs X bb (liftS X.K Ps u)) : PS X (.If cnd ab bb pos) (liftS X.K Ps (dIf tc t u)) :=
  ps_weak (ps_if hc ha hb) fun D σ H ⟨c, hs, as, σd, Dd, S, h, r⟩ => ⟨c, hs, as, σd, _, S, h, fun bl H1 h1 s1 => by
    cases bl with
    | true => exact ⟨c, hs, as, σd, Dd, S.step s1, h1, r⟩
    | false => exact ⟨c, hs, as, σd, Dd, S.step s1, h1, r⟩⟩
/-- x = e -/
def dSet (i : Nat) (de : DE) : DS := fun D σ => de σ fun d => D.nx (σ.set i (some (.dat d)))
theorem lift_set {i : Nat} {D : Ends} {σ : L2.St} {H : Hp} (h : liftS X.K Ps (dSet i de) D σ H) : tAsg (lift X.K Ps de) (gName i) D σ H := by
  obtain ⟨c, hs, as, σd, Dd, S, h, r⟩ := h
  exact ⟨c, hs, as, σd, _, S, h, fun d v H1 h1 s1 r1 => r.nx hs as _ H1 _ ((S.step s1).set (.dat d) (fun _ z => by cases z) r1) h1⟩
/-- x = a new list that the def changes later -/
def dSetO (i : Nat) (dl : DL) : DS := fun D σ => dl σ fun ds => D.nx (σ.set i (some (.own ds)))
theorem lift_setO {i : Nat} {dl : DL} {D : Ends} {σ : L2.St} {H : Hp} (h : liftS X.K Ps (dSetO i dl) D σ H) : tAsg (liftN X.K Ps dl) (gName i) D σ H := by
  obtain ⟨c, hs, as, σd, Dd, S, h, r⟩ := h
  exact ⟨c, hs, as, σd, _, S, h, fun ds p vs H1 h1 s1 hp h2 h3 => r.nx hs (p :: as) _ H1 _ (S.new s1 hp h2 h3) h1⟩
section
variable {i : Nat} {x : Str} {pos' : Pos}
theorem psd_set (hN : X.N.Nodup) (hi : X.N[i]? = some x) (hx : Loc X.env.scope x) (he : PE X e (lift X.K Ps de)) (hs : swapsWith e (some (.Name x pos')) pos.line X.env = pure false := by rfl) (hf : X.fn x = true ∨ X.env.scope.names.lookup x = some .local := by first | exact .inl rfl | exact .inr rfl | assumption) :
    PS X (.Assign [.Name x pos'] e pos) (liftS X.K Ps (dSet i de)) := ps_weak (ps_set hN hi hx he hs hf) fun _ _ _ => lift_set
theorem psd_setO {dl : DL} (hN : X.N.Nodup) (hi : X.N[i]? = some x) (hx : Loc X.env.scope x) (he : PE X e (liftN X.K Ps dl)) (hs : swapsWith e (some (.Name x pos')) pos.line X.env = pure false := by rfl) (hf : X.fn x = true ∨ X.env.scope.names.lookup x = some .local := by first | exact .inl rfl | exact .inr rfl | assumption) :
    PS X (.Assign [.Name x pos'] e pos) (liftS X.K Ps (dSetO i dl)) := ps_weak (ps_set hN hi hx he hs hf) fun _ _ _ => lift_setO
/-- x op= e, of ints -/
def dAug (i : Nat) (f : Int → Int → Int) (de : DE) : DS := fun D σ => match σ[i]? with
  | some (some (.dat (.int n))) => de σ fun d => match d with
    | .int m => D.nx (σ.set i (some (.dat (.int (f n m)))))
    | _ => False
  | _ => False
theorem psd_aug {op : Operator} {f : Int → Int → Int} (hN : X.N.Nodup) (hi : X.N[i]? = some x) (hx : Loc X.env.scope x) (he : PE X e (lift X.K Ps de)) (ho : PIp X op (ipI f)) (hf : X.fn x = true ∨ X.env.scope.names.lookup x = some .local := by first | exact .inl rfl | exact .inr rfl | assumption) :
    PS X (.AugAssign (.Name x pos') op e pos) (liftS X.K Ps (dAug i f de)) := ps_weak (ps_aug hN hi hx he ho hf) fun D σ H ⟨c, hs, as, σd, Dd, S, h, r⟩ => by
  unfold dAug at h
  split at h
  · rename_i n q
    obtain ⟨v, h1, h2⟩ := S.slot i _ q
    cases h2
    refine ⟨_, h1, c, hs, as, σd, _, S, h, fun d w H1 h3 s1 r1 => ?_⟩
    split at h3
    · cases r1
      exact ⟨_, _, rfl, rfl, r.nx hs as _ H1 _ ((S.step s1).set (.dat _) (fun _ z => by cases z) (.int _)) h3⟩
    · exact h3.elim
  · exact h.elim
end
/-- an expression alone -/
def dDrop (de : DE) : DS := fun D σ => de σ fun _ => D.nx σ
theorem psd_expr (he : PE X e (lift X.K Ps de)) (hs : swapsWith e none pos.line X.env = pure false := by rfl) : PS X (.Expr e pos) (liftS X.K Ps (dDrop de)) := ps_weak (ps_expr he hs) fun D σ H ⟨c, hs, as, σd, Dd, S, h, r⟩ =>
  ⟨c, hs, as, σd, _, S, h, fun d v H1 h1 s1 _ => r.nx hs as _ H1 _ (S.step s1) h1⟩
/-- found.append(e) -/
def dApp (i : Nat) (de : DE) : DS := fun D σ => match σ[i]? with
  | some (some (.own ds)) => de σ fun d => ds.length < 100000 ∧ D.nx (σ.set i (some (.own (ds ++ [d]))))
  | _ => False
theorem lift_app {i : Nat} {D : Ends} {σ : L2.St} {H : Hp} (h : liftS X.K Ps (dApp i de) D σ H) : tDrop (tBM X.K "list" rAppend (tVar i) (tCons (lift X.K Ps de) tNil)) D σ H := by
  obtain ⟨c, hs, as, σd, Dd, S, h, r⟩ := h
  unfold dApp at h
  split at h
  · rename_i ds q
    obtain ⟨v, h1, a, vs, rfl, ha, h2, h3⟩ := S.slot i _ q
    refine ⟨_, h1, .inl ⟨rfl, vs, sq_of h2⟩, c, hs, as, σd, _, S, h, fun d w H1 h4 s1 r1 => ?_⟩
    have T := S.step s1
    have e1 : H1 a = some (.lst vs) := s1.keep a _ h2 (S.fr.own a ha).2.2.1 (S.fr.own a ha).2.2.2
    have e3 := dpAll_mono (S.fr.wf.ex s1) h3
    exact ⟨a, vs, w, rfl, rfl, e1, sz_lt (by rw [h3.len]; exact h4.1), r.nx hs as _ _ _ (T.chg q h1 (e3.app (.cons r1 .nil))) h4.2⟩
  · exact h.elim
/-- counts[k] = e -/
def dPut (i : Nat) (di de : DE) : DS := fun D σ => match σ[i]? with
  | some (some (.own ds)) => de σ fun d => di σ fun x => match x with
    | .int k => match ixN ds.length k with
      | some j => D.nx (σ.set i (some (.own (ds.set j d))))
      | none => False
    | _ => False
  | _ => False
theorem lift_put {i : Nat} {di : DE} {D : Ends} {σ : L2.St} {H : Hp} (h : liftS X.K Ps (dPut i di de) D σ H) : tAsg (lift X.K Ps de) (gSub (tVar i) (lift X.K Ps di) rSetA) D σ H := by
  obtain ⟨c, hs, as, σd, Dd, S, h, r⟩ := h
  unfold dPut at h
  split at h
  · rename_i ds q
    obtain ⟨v, h1, a, vs, rfl, ha, h2, h3⟩ := S.slot i _ q
    refine ⟨c, hs, as, σd, _, S, h, fun d w H1 h4 s1 r1 => ⟨_, h1, c, hs, as, σd, _, S.step s1, h4, fun x y H2 h5 s2 r2 => ?_⟩⟩
    have T := (S.step s1).step s2
    have s12 := s1.trans s2
    have e1 : H2 a = some (.lst vs) := s12.keep a _ h2 (S.fr.own a ha).2.2.1 (S.fr.own a ha).2.2.2
    have e3 := dpAll_mono (S.fr.wf.ex s12) h3
    split at h5
    · rename_i k
      split at h5
      · rename_i j q2
        cases r2
        exact ⟨a, k, vs, j, rfl, rfl, e1, by rw [h3.len]; exact q2, r.nx hs as _ _ _ (T.chg q h1 (e3.setAt (dp_mono ((S.step s1).fr.wf.ex s2) r1))) h5⟩
      · exact h5.elim
    · exact h5.elim
  · exact h.elim
/-- a list that is changed no more -/
def dFrz (i : Nat) (t : DS) : DS := fun D σ => match σ[i]? with
  | some (some (.own ds)) => t D (σ.set i (some (.dat (.list ds))))
  | _ => False
end
section
variable {K : PySem.W.Frag} {Ps : List Addr} {c : C0} {hs as : List Addr} {H H' : Hp} {σ : L2.St} {σd : Sd} {i : Nat}
theorem Sts.frz {ds : List PyData} (S : Sts K Ps c hs as σ H σd) (hi : σd[i]? = some (some (.own ds))) : ∃ as', Sts K Ps c hs as' σ H (σd.set i (some (.dat (.list ds)))) := by
  obtain ⟨v, h1, a, vs, rfl, ha, h2, h3⟩ := S.slot i _ hi
  have f := S.fr
  have ex : Ex (msk (Mk c hs as) H) (msk (Mk c hs (as.filter (· ≠ a))) H) := msk_less fun x m => by
    rcases m with m | m | m
    · exact .inl m
    · exact .inr (.inl m)
    · exact .inr (.inr ((List.mem_filter.mp m).1))
  have na : ¬ Mk c hs (as.filter (· ≠ a)) a := fun m => by
    rcases m with m | m | m
    · exact f.wf0.al a m (f.own a ha).1
    · exact (f.own a ha).2.2.1 m
    · have := (List.mem_filter.mp m).2
      simp at this
  refine ⟨as.filter (· ≠ a), ⟨f.wf0, f.st, f.hat, f.sub, fun b hb => f.own b ((List.mem_filter.mp hb).1), f.bs.trans ex⟩, by simp [S.len], fun j w e => ?_, fun j k es fs n e1 e2 => ?_⟩
  · rcases set_get e with ⟨rfl, rfl⟩ | ⟨n, e⟩
    · exact ⟨_, h1, .lst (.inl (.inl (msk_some.mpr ⟨na, h2⟩))) (dpAll_mono ex h3)⟩
    · obtain ⟨v, q1, q2⟩ := S.slot j w e
      refine ⟨v, q1, ?_⟩
      cases w with
      | dat d => exact dp_mono ex q2
      | own es =>
        obtain ⟨x, us, rfl, hx, r1, r2⟩ := q2
        have nx : x ≠ a := fun z => S.dis i j ds es n hi e (by rw [h1, q1, z])
        exact ⟨x, us, rfl, List.mem_filter.mpr ⟨hx, by simpa using nx⟩, r1, dpAll_mono ex r2⟩
      | hat => exact q2
  · rcases set_get e1 with ⟨_, z⟩ | ⟨n1, e1'⟩
    · cases z
    · rcases set_get e2 with ⟨_, z⟩ | ⟨n2, e2'⟩
      · cases z
      · exact S.dis j k es fs n e1' e2'
end
section
variable {X : Cx} {Ps : List Addr} {st : Stmt} {rest : List Stmt} {t : DS}
theorem pss_frz {i : Nat} (h : PSs X rest (liftS X.K Ps t)) : PSs X rest (liftS X.K Ps (dFrz i t)) := pss_weak h fun D σ H ⟨c, hs, as, σd, Dd, S, h, r⟩ => by
  unfold dFrz at h
  split at h
  · rename_i ds q
    obtain ⟨as', T⟩ := S.frz q
    exact ⟨c, hs, as', _, Dd, T, h, r⟩
  · exact h.elim
end
/-! ### a def's promise -/
def startD (n : Nat) (ws : List WD) : Sd := ws.map some ++ List.replicate (n - ws.length) none
section
variable {P : Program} {w : World} {K : PySem.W.Frag} {mg : Str → Option Value} {base : Heap} {Ps : List Addr}
theorem paired_len {α β : Type} {R : α → β → Prop} : ∀ {xs : List α} {ys : List β}, Paired R xs ys → xs.length = ys.length
  | _, _, .nil => rfl
  | _, _, .cons _ h => by simp [paired_len h]
theorem paired_at {α β : Type} {R : α → β → Prop} : ∀ {xs : List α} {ys : List β} {i : Nat} {y : β}, Paired R xs ys → ys[i]? = some y → ∃ x, xs[i]? = some x ∧ R x y
  | _, _, _, _, .nil, e => by simp at e
  | _, _, 0, _, .cons r _, e => by simp at e; subst e; exact ⟨_, rfl, r⟩
  | _, _, i + 1, _, .cons _ h, e => by simpa using paired_at h (by simpa using e)
theorem sts_start {M : Addr → Prop} {hs : List Addr} {H : Hp} {vs : List V} {ws : List WD} {n : Nat} (N : List Str) (hN : N.length = n) (wf : Wf Ps M hs H) (p : Paired (VR K M hs [] H) vs ws) : Sts K Ps ⟨hs, M, H, msk M H⟩ hs [] (start N vs) H (startD n ws) := by
  have len := paired_len p
  have em : Mk ⟨hs, M, H, msk M H⟩ hs [] = M := by
    funext a
    apply propext
    constructor
    · intro m
      rcases m with m | m | m
      · exact m
      · exact (wf.hat a m).1
      · cases m
    · exact fun m => .inl m
  refine ⟨⟨wf, Step.refl, fun p hp => ⟨(wf.hat p hp).2, .inl hp⟩, fun p hp => hp, fun a ha => (by cases ha), by rw [em]; exact Ex.refl _⟩, ?_, fun i wd e => ?_, fun i j ds es n e1 e2 => ?_⟩
  · unfold L2.start startD
    simp [len, hN]
  · unfold startD at e
    have hi : i < ws.length := by
      by_cases h : i < ws.length
      · exact h
      · rw [List.getElem?_append_right (by simp; omega)] at e
        by_cases h2 : i - (ws.map some).length < n - ws.length
        · rw [List.getElem?_replicate] at e
          split at e <;> cases e
        · rw [List.getElem?_eq_none (by simp at h2 ⊢; omega)] at e
          cases e
    rw [List.getElem?_append_left (by simpa using hi), List.getElem?_map] at e
    cases q : ws[i]? with
    | none => rw [q] at e; cases e
    | some wd' =>
      rw [q] at e
      cases e
      obtain ⟨v, h1, h2⟩ := paired_at p q
      refine ⟨v, ?_, by rw [em]; exact h2⟩
      unfold L2.start
      rw [List.getElem?_append_left (by simp; omega), List.getElem?_map, h1]
      rfl
  · exfalso
    unfold startD at e1
    have hi : i < ws.length := by
      by_cases h : i < ws.length
      · exact h
      · rw [List.getElem?_append_right (by simp; omega)] at e1
        rw [List.getElem?_replicate] at e1
        split at e1 <;> cases e1
    rw [List.getElem?_append_left (by simpa using hi), List.getElem?_map] at e1
    cases q : ws[i]? with
    | none => rw [q] at e1; cases e1
    | some wd' =>
      rw [q] at e1
      cases e1
      obtain ⟨v, _, h2⟩ := paired_at p q
      obtain ⟨_, _, _, z, _⟩ := h2
      cases z
theorem okD {x qual : Str} {st : Stmt} {f : Addr} {fd : FuncData} {N ps : List Str} {k : Nat} {SD : DSp} (F : Fun K x qual st f fd) (S : FnScope N ps (defScope st)) (len : ∀ ws Q, SD ws Q → ws.length = ps.length)
    (body : ∀ (cdv : Value) (A : Around) (outer : List Env) (s : Shared) (H : Hp) (E : XK), Room k (A.deeper (envOfC qual (defScope st) s.heap.objs.size f cdv)) →
      ∃ db, PSs (cxOf CX0 P w K mg base N qual (defScope st) f cdv A outer s H E).nox (defBody st) (liftS K Ps db) ∧ ∀ ws Qd, SD ws Qd → db { nx := fun _ => Qd .none, rt := Qd } (startD N.length ws)) :
    FnOk P w K mg base CX0 (k + 1) f fd ps (spOf K Ps SD) := by
  refine F.ok S (fun vs H Q E h => ?_) (fun cdv A outer s H vs Q E hr h => ?_)
  · obtain ⟨M, hs, ws, Qd, wf, p, s, _⟩ := h
    rw [paired_len p]
    exact len ws Qd s
  · obtain ⟨db, h1, h2⟩ := body cdv A outer s H E hr
    obtain ⟨M, hs, ws, Qd, wf, p, sd, k⟩ := h
    refine ⟨_, h1, ⟨hs, M, H, msk M H⟩, hs, [], _, _, sts_start N rfl wf p, h2 ws Qd sd, fun hs' as' σ' H' σd' T h => ?_, fun v H' d s q h => k d v H' h s q, fun _ _ _ _ _ _ h => h.elim, fun _ _ _ _ _ _ h => h.elim⟩
    exact k .none .non H' h T.fr.st .non
end
end Dl
end
section
set_option Elab.async false
set_option linter.all false
set_option maxRecDepth 100000
set_option maxHeartbeats 1000000
namespace Dl
open PySem PySem.Spec PyProof.Rows L2 HbE Evl
/-! ### targets -/
abbrev DG := PyData → Sd → (Sd → Prop) → Prop
abbrev DGs := List PyData → Sd → (Sd → Prop) → Prop
def liftG (K : PySem.W.Frag) (Ps : List Addr) (ts : List Nat) (dg : DG) : TG := fun v σ H Q => ∃ c hs as σd d Qd, Sts K Ps c hs as σ H σd ∧ Dp K (msk (Mk c hs as) H) v d ∧ dg d σd Qd ∧ ∀ σ' σd', Sts K Ps c hs as σ' H σd' → wipe σ' ts = wipe σ ts → Qd σd' → Q σ' H
def liftGs (K : PySem.W.Frag) (Ps : List Addr) (ts : List Nat) (dg : DGs) : TGs := fun vs σ H Q => ∃ c hs as σd ds Qd, Sts K Ps c hs as σ H σd ∧ DpAll K (msk (Mk c hs as) H) vs ds ∧ dg ds σd Qd ∧ ∀ σ' σd', Sts K Ps c hs as σ' H σd' → wipe σ' ts = wipe σ ts → Qd σd' → Q σ' H
theorem pg_weak {X : Cx} {e : PySem.Expr} {t t' : TG} (h : PG X e t) (k : ∀ v σ H Q, t' v σ H Q → t v σ H Q) : PG X e t' := ⟨fun pins s σ H v u Q I r q => h.run pins s σ H v u Q I r (k v σ H Q q)⟩
theorem pgs_weak {X : Cx} {e : List PySem.Expr} {t t' : TGs} (h : PGs X e t) (k : ∀ v σ H Q, t' v σ H Q → t v σ H Q) : PGs X e t' := ⟨fun pins s σ H v u Q I r q => h.run pins s σ H v u Q I r (k v σ H Q q)⟩
theorem wipe_get {σ : L2.St} {ts : List Nat} {j : Nat} : (wipe σ ts)[j]? = if j ∈ ts then (σ[j]?).map (fun _ => none) else σ[j]? := by
  induction ts with
  | nil => simp [wipe]
  | cons t ts ih =>
    unfold wipe
    by_cases e : t = j
    · subst e
      by_cases hl : t < (wipe σ ts).length
      · rw [List.getElem?_set_self hl]
        rw [wipe_length] at hl
        simp [hl]
      · rw [List.getElem?_eq_none (by rw [List.length_set]; omega)]
        rw [wipe_length] at hl
        simp [List.getElem?_eq_none (Nat.le_of_not_lt hl)]
    · rw [List.getElem?_set_ne e, ih]
      have : j ≠ t := fun z => e z.symm
      simp [this]
theorem wipe_ext {σ σ' : L2.St} {ts : List Nat} (hl : σ'.length = σ.length) (h : ∀ j, j ∉ ts → σ'[j]? = σ[j]?) : wipe σ' ts = wipe σ ts := by
  apply List.ext_getElem?
  intro j
  rw [wipe_get, wipe_get]
  by_cases hj : j ∈ ts
  · simp only [hj, if_true]
    by_cases h2 : j < σ.length
    · rw [List.getElem?_eq_getElem h2, List.getElem?_eq_getElem (by omega)]
      rfl
    · rw [List.getElem?_eq_none (by omega), List.getElem?_eq_none (by omega)]
  · simp only [hj, if_false]
    exact h j hj
theorem wipe_back {σ σ' : L2.St} {ts : List Nat} (h : wipe σ' ts = wipe σ ts) : σ'.length = σ.length ∧ ∀ j, j ∉ ts → σ'[j]? = σ[j]? := by
  refine ⟨?_, fun j hj => ?_⟩
  · have := congrArg List.length h
    rwa [wipe_length, wipe_length] at this
  · have := congrArg (fun l => l[j]?) h
    simp only [wipe_get, hj, if_false] at this
    exact this
theorem wipe_more {σ σ' : L2.St} {ts us : List Nat} (h : wipe σ' ts = wipe σ ts) (k : ∀ t ∈ ts, t ∈ us) : wipe σ' us = wipe σ us :=
  wipe_ext (wipe_back h).1 fun j hj => (wipe_back h).2 j fun m => hj (k j m)
section
variable {X : Cx} {Ps : List Addr} {e : PySem.Expr} {es : List PySem.Expr} {pos : Pos} {i : Nat} {x : Str} {ts us : List Nat}
def gSet (i : Nat) : DG := fun d σ Q => Q (σ.set i (some (.dat d)))
theorem pgd_name (h : PG X e (gName i)) : PG X e (liftG X.K Ps [i] (gSet i)) := pg_weak h fun v σ H Q ⟨c, hs, as, σd, d, Qd, S, hd, hg, k⟩ =>
  k _ _ (S.set (.dat d) (fun _ z => by cases z) hd) (wipe_ext (by simp) fun j hj => List.getElem?_set_ne (fun z => hj (by simp [z]))) hg
def gsNil : DGs := fun ds σ Q => match ds with
  | [] => Q σ
  | _ => False
theorem pgsd_nil : PGs X [] (liftGs X.K Ps [] gsNil) := pgs_weak pgs_nil fun v σ H Q ⟨c, hs, as, σd, d, Qd, S, hd, hg, k⟩ => by
  unfold gsNil at hg
  split at hg
  · cases hd
    exact ⟨rfl, k _ _ S rfl hg⟩
  · exact hg.elim
def gsCons (t : DG) (u : DGs) : DGs := fun ds σ Q => match ds with
  | d :: r => t d σ fun σ' => u r σ' Q
  | [] => False
theorem pgsd_cons {t : DG} {u : DGs} (h1 : PG X e (liftG X.K Ps ts t)) (h2 : PGs X es (liftGs X.K Ps us u)) (hs : (assignEach (e :: es) X.env).map (·.2) = assign e X.env :: (assignEach es X.env).map (·.2) := by rfl) :
    PGs X (e :: es) (liftGs X.K Ps (ts ++ us) (gsCons t u)) := pgs_weak (pgs_cons h1 h2 hs) fun vs σ H Q ⟨c, hs, as, σd, ds, Qd, S, hd, hg, k⟩ => by
  cases hd with
  | nil => exact hg.elim
  | cons q1 q2 =>
    refine ⟨_, _, rfl, c, hs, as, σd, _, _, S, q1, hg, fun σ1 σd1 S1 w1 hg1 => ⟨c, hs, as, σd1, _, _, S1, q2, hg1, fun σ2 σd2 S2 w2 hg2 => k σ2 σd2 S2 ?_ hg2⟩⟩
    have a1 := wipe_more (us := ts ++ us) w1 fun t h => List.mem_append_left _ h
    have a2 := wipe_more (us := ts ++ us) w2 fun t h => List.mem_append_right _ h
    exact a2.trans a1
def gTupD (n : Nat) (t : DGs) : DG := fun d σ Q => match d with
  | .tuple ds => ds.length = n ∧ t ds σ Q
  | _ => False
theorem pgd_tup {k0 n : Nat} {t : DGs} (hc : X.calm = true) (h : PGs X es (liftGs X.K Ps ts t)) (hn : (assignEach es X.env).length = n := by rfl) (hst : (assignEach es X.env).findIdx? (·.1) = none := by rfl) : PG X (.Tuple es k0 pos) (liftG X.K Ps ts (gTupD n t)) :=
  pg_weak (pg_tup hc h hn hst) fun v σ H Q ⟨c, hs, as, σd, d, Qd, S, hd, hg, k⟩ => by
    unfold gTupD at hg
    split at hg
    · cases hd with
      | tup h1 h2 => exact ⟨_, _, rfl, ex_t msk_ex h1, by rw [h2.len]; exact hg.1, c, hs, as, σd, _, _, S, h2, hg.2, k⟩
    · exact hg.elim
def dAsgG (g : DG) (de : DE) : DS := fun D σ => de σ fun d => g d σ D.nx
theorem lift_asgG {g : DG} {de : DE} {D : Ends} {σ : L2.St} {H : Hp} (h : liftS X.K Ps (dAsgG g de) D σ H) : tAsg (lift X.K Ps de) (liftG X.K Ps ts g) D σ H := by
  obtain ⟨c, hs, as, σd, Dd, S, h, r⟩ := h
  exact ⟨c, hs, as, σd, _, S, h, fun d v H1 h1 s1 r1 => ⟨c, hs, as, σd, d, _, S.step s1, r1, h1, fun σ' σd' S' _ q => r.nx hs as σ' H1 σd' S' q⟩⟩
end
/-! ### iterators -/
def ItD (K : PySem.W.Frag) (Ps : List Addr) (B : Hp) (J : It) (ds : List PyData) : Prop := ∀ (M : Addr → Prop) (hs : List Addr) (H : Hp), Wf Ps M hs H → Ex B (msk M H) →
  (∀ i d, ds[i]? = some d → J.go i H ∧ ∀ x H', J.yld i H x H' → Step hs Ps H H' ∧ Dp K (msk M H') x d) ∧ J.stop ds.length H
abbrev DI := Sd → (List PyData → Prop) → Prop
def liftI (K : PySem.W.Frag) (Ps : List Addr) (di : DI) : TI := fun σ H R => ∃ c hs as σd Qd, Sts K Ps c hs as σ H σd ∧ di σd Qd ∧ ∀ ds J H', Qd ds → Step hs Ps H H' → ItD K Ps (msk (Mk c hs as) H') J ds → R J H'
theorem pi_weak {X : Cx} {tg e : PySem.Expr} {t t' : TI} (h : PI X tg e t) (k : ∀ σ H Q, t' σ H Q → t σ H Q) : PI X tg e t' := ⟨fun pins s σ H R I q => h.run pins s σ H R I (k σ H R q)⟩
theorem itd_list {K : PySem.W.Frag} {Ps : List Addr} {B : Hp} {a : Addr} {xs : List V} {ds : List PyData} (h : SqL K B a xs) (hd : DpAll K B xs ds) : ItD K Ps B (Itl K a) ds := fun M hs H wf e =>
  ⟨fun i d hi => by
    obtain ⟨v, h1, h2⟩ := hd.get hi
    have hl := ex_l msk_ex (ex_l e h)
    refine ⟨⟨xs, v, hl, h1⟩, fun x H' y => ?_⟩
    obtain ⟨rfl, f⟩ := y
    have := f xs hl
    rw [h1] at this
    cases this
    exact ⟨Step.refl, dp_mono e h2⟩, ⟨xs, ex_l msk_ex (ex_l e h), by rw [hd.len]; exact Nat.le_refl _⟩⟩
theorem itd_tup {K : PySem.W.Frag} {Ps : List Addr} {B : Hp} {a : Addr} {xs : List V} {ds : List PyData} (h : SqT K B a xs) (hd : DpAll K B xs ds) : ItD K Ps B (Itt K a) ds := fun M hs H wf e =>
  ⟨fun i d hi => by
    obtain ⟨v, h1, h2⟩ := hd.get hi
    have hl := ex_t msk_ex (ex_t e h)
    refine ⟨⟨xs, v, hl, h1⟩, fun x H' y => ?_⟩
    obtain ⟨rfl, f⟩ := y
    have := f xs hl
    rw [h1] at this
    cases this
    exact ⟨Step.refl, dp_mono e h2⟩, ⟨xs, ex_t msk_ex (ex_t e h), by rw [hd.len]; exact Nat.le_refl _⟩⟩
theorem itd_range {K : PySem.W.Frag} {Ps : List Addr} {B : Hp} {lo : Int} {n : Nat} : ItD K Ps B (Itr lo n) ((List.range n).map fun i : Nat => PyData.int (lo + i)) := fun M hs H wf e =>
  ⟨fun i d hi => by
    have hn : i < n := by
      have := (List.getElem?_eq_some_iff.mp hi).1
      simpa using this
    rw [List.getElem?_map, List.getElem?_range hn] at hi
    cases hi
    refine ⟨hn, fun x H' y => ?_⟩
    obtain ⟨rfl, rfl⟩ := y
    exact ⟨Step.refl, .int _⟩, by show n ≤ _; simp⟩
section
variable {X : Cx} {Ps : List Addr} {tg e a b : PySem.Expr} {es : List PySem.Expr} {pos p : Pos}
/-- a list or a tuple -/
def iSeq (K : PySem.W.Frag) (tl : TE) : TI := fun σ H R => tl σ H fun x H1 => ∃ a, x = .ref a ∧ (((∃ xs, SqL K H1 a xs) ∧ R (Itl K a) H1) ∨ ((∃ xs, SqT K H1 a xs) ∧ R (Itt K a) H1))
theorem pi_seq {tl : TE} (hl : PE X e tl) : PI X tg e (iSeq X.K tl) := by
  refine ⟨fun pins s σ H R inv h => thn (hl.run pins s σ H _ inv h) fun v s1 ⟨x, H1, inv1, rel, a, ex, hx⟩ => ?_⟩
  subst ex
  cases rel
  have fin : ∀ b ∈ [s1.heap.objs.size], FpOk X pins H1 b := fun b hb => by
    rw [List.mem_singleton.mp hb]
    exact inv1.fpOk (Nat.le_refl _) (inv1.hok.fresh (Nat.le_refl _))
  rcases hx with ⟨⟨xs, hq⟩, q⟩ | ⟨⟨xs, hq⟩, q⟩
  · obtain ⟨its, rv, pl, _⟩ := inv1.list hq
    exact wpAny_pyIter_list pl.isList ⟨s1.heap.objs.size, [s1.heap.objs.size], _, _, H1, rfl, inv1.kept (t' := s1.toks) fun b o eo => Heap.get?_push_of_some _ eo, turn_list a _, ⟨_, Heap.get?_push_size _ rfl, rfl, rfl⟩, fin, q⟩
  · obtain ⟨its, rv, pl, _⟩ := inv1.tuple hq
    exact wpAny_pyIter_tuple (show s1.heap.IsTuple a its.toArray from pl) ⟨s1.heap.objs.size, [s1.heap.objs.size], _, _, H1, rfl, inv1.kept (t' := s1.toks) fun b o eo => Heap.get?_push_of_some _ eo, turn_tuple a _, ⟨_, Heap.get?_push_size _ rfl, rfl, rfl⟩, fin, q⟩
def dItS (de : DE) : DI := fun σ Q => de σ fun d => match d with
  | .list ds => Q ds
  | .tuple ds => Q ds
  | _ => False
theorem pid_seq {de : DE} (h : PE X e (lift X.K Ps de)) : PI X tg e (liftI X.K Ps (dItS de)) := pi_weak (pi_seq h) fun σ H R ⟨c, hs, as, σd, Qd, S, hd, k⟩ =>
  ⟨c, hs, as, σd, _, S, hd, fun d v H1 h1 s1 r1 => by
    split at h1
    · cases r1 with
      | lst h2 h3 => exact ⟨_, rfl, .inl ⟨⟨_, ex_l msk_ex h2⟩, k _ _ H1 h1 s1 (itd_list h2 h3)⟩⟩
    · cases r1 with
      | tup h2 h3 => exact ⟨_, rfl, .inr ⟨⟨_, ex_t msk_ex h2⟩, k _ _ H1 h1 s1 (itd_tup h2 h3)⟩⟩
    · exact h1.elim⟩
def dRange1 (da : DA) : DI := fun σ Q => da σ fun ws => match ws with
  | [.dat (.int n)] => n < 4611686018427387904 ∧ -4611686018427387904 ≤ n ∧ Q ((List.range n.toNat).map fun i : Nat => PyData.int i)
  | _ => False
theorem pid_range1 {da : DA} (hg : Gl X "range") (hm : X.mg "range" = none) (ha : PA X [a] (liftA X.K Ps da)) (hs : starEach [a] X.env = [(false, eval a X.env)] := by rfl) : PI X tg (.Call (.Name "range" p) [a] [] pos) (liftI X.K Ps (dRange1 da)) :=
  pi_weak (pi_range1 hg hm ha hs) fun σ H R ⟨c, hs, as, σd, Qd, S, hd, k⟩ => ⟨c, hs, as, σd, _, S, hd, fun ws vs H1 h1 s1 r1 => by
    split at h1
    · cases r1 with
      | cons q1 q2 =>
        cases q2
        cases q1
        refine ⟨_, rfl, h1.2.1, h1.1, k _ _ H1 h1.2.2 s1 ?_⟩
        have z := itd_range (K := X.K) (Ps := Ps) (B := msk (Mk c hs as) H1) (lo := 0) (n := (‹Int›).toNat)
        simpa using z
    · exact h1.elim⟩
def dRange2 (da : DA) : DI := fun σ Q => da σ fun ws => match ws with
  | [.dat (.int m), .dat (.int n)] => (n < 4611686018427387904 ∧ -4611686018427387904 ≤ n ∧ m < 4611686018427387904 ∧ -4611686018427387904 ≤ m) ∧ Q ((List.range (n - m).toNat).map fun i : Nat => PyData.int (m + i))
  | _ => False
theorem pid_range2 {da : DA} (hg : Gl X "range") (hm : X.mg "range" = none) (ha : PA X [a, b] (liftA X.K Ps da)) (hs : starEach [a, b] X.env = [(false, eval a X.env), (false, eval b X.env)] := by rfl) (hs2 : starEach [b] X.env = [(false, eval b X.env)] := by rfl) :
    PI X tg (.Call (.Name "range" p) [a, b] [] pos) (liftI X.K Ps (dRange2 da)) :=
  pi_weak (pi_range2 hg hm ha hs hs2) fun σ H R ⟨c, hs, as, σd, Qd, S, hd, k⟩ => ⟨c, hs, as, σd, _, S, hd, fun ws vs H1 h1 s1 r1 => by
    split at h1
    · cases r1 with
      | cons q1 q2 =>
        cases q2 with
        | cons q2 q3 =>
          cases q3
          cases q1
          cases q2
          obtain ⟨⟨b1, b2, b3, b4⟩, hq⟩ := h1
          exact ⟨_, _, rfl, ⟨b4, b3, b2, b1⟩, k _ _ H1 hq s1 itd_range⟩
    · exact h1.elim⟩
end
/-! ### loops -/
def forD (g : DG) (tb : DS) (D : ED) : List PyData → Sd → Prop
  | [], σ => D.nx σ
  | d :: ds, σ => g d σ fun σ2 => tb { D with nx := forD g tb D ds, ct := forD g tb D ds, bk := D.nx } σ2
def dFor (di : DI) (g : DG) (tb : DS) : DS := fun D σ => di σ fun ds => forD g tb D ds σ
theorem Sts.base {K : PySem.W.Frag} {Ps : List Addr} {c : C0} {hs as : List Addr} {σ : L2.St} {H B : Hp} {σd : Sd} (S : Sts K Ps c hs as σ H σd) (e : Ex B (msk (Mk c hs as) H)) : Sts K Ps { c with B := B } hs as σ H σd :=
  ⟨⟨S.fr.wf0, S.fr.st, S.fr.hat, S.fr.sub, S.fr.own, e⟩, S.len, S.slot, S.dis⟩
theorem lift_for {K : PySem.W.Frag} {Ps : List Addr} {di : DI} {g : DG} {tb : DS} {ts : List Nat} {D : Ends} {σ : L2.St} {H : Hp} (h : liftS K Ps (dFor di g tb) D σ H) : tFor (liftI K Ps di) (liftG K Ps ts g) (liftS K Ps tb) D σ H := by
  obtain ⟨c, hs, as, σd, Dd, S, h, r⟩ := h
  refine ⟨c, hs, as, σd, _, S, h, fun ds J H1 h1 s1 it => ?_⟩
  generalize hB : msk (Mk c hs as) H1 = B at it
  have toc : ∀ {hs' as' σ' H' σd'}, Sts K Ps { c with B := B } hs' as' σ' H' σd' → Sts K Ps c hs' as' σ' H' σd' := fun {hs' as' σ' H' σd'} T =>
    T.base (B := c.B) ((S.step s1).fr.bs.trans (by rw [hB]; exact T.fr.bs))
  refine ⟨fun i m σ' H' => ∃ hs' as' σd', Sts K Ps { c with B := B } hs' as' σ' H' σd' ∧ i + m = ds.length ∧ forD g tb Dd (ds.drop i) σd', ⟨ds.length, hs, as, σd, (S.step s1).base (by rw [hB]; exact Ex.refl _), by omega, h1⟩, ?_⟩
  rintro i m σ' H' ⟨hs', as', σd', T, em, hf⟩
  obtain ⟨hgo, hst⟩ := it _ _ _ T.fr.wf T.fr.bs
  by_cases hi : i < ds.length
  · rw [List.drop_eq_getElem_cons hi] at hf
    obtain ⟨g1, g2⟩ := hgo i ds[i] (List.getElem?_eq_getElem hi)
    refine .inr ⟨g1, fun σ2 H2 => ∃ hs2 as2 σd2, Sts K Ps { c with B := B } hs2 as2 σ2 H2 σd2 ∧ forD g tb Dd (ds.drop (i + 1)) σd2, fun σ2 H2 ⟨hs2, as2, σd2, T2, q⟩ => ⟨m - 1, by omega, hs2, as2, σd2, T2, by omega, q⟩, fun x H2 y => ?_⟩
    obtain ⟨s2, rx⟩ := g2 x H2 y
    refine ⟨{ c with B := B }, hs', as', σd', ds[i], _, T.step s2, rx, hf, fun σ3 σd3 T3 _ q => ?_⟩
    exact ⟨{ c with B := B }, hs', as', σd3, _, T3, q, ⟨fun hs4 as4 σ4 H4 σd4 T4 q => ⟨hs4, as4, σd4, T4, q⟩, fun v H4 d s q1 q2 => r.rt v H4 d s q1 q2, fun hs4 as4 σ4 H4 σd4 T4 q => r.nx hs4 as4 σ4 H4 σd4 (toc T4) q, fun hs4 as4 σ4 H4 σd4 T4 q => ⟨hs4, as4, σd4, T4, q⟩⟩⟩
  · rw [List.drop_eq_nil_of_le (Nat.le_of_not_lt hi)] at hf
    exact .inl ⟨(show i = ds.length by omega) ▸ hst, r.nx hs' as' σ' H' σd' (toc T) hf⟩
def dWhile (c : DT) (tb : DS) : DS := fun D σ => ∃ W : Nat → Sd → Prop, (∃ m, W m σ) ∧ ∀ m σ, W m σ → c σ fun b => if b = true then tb { D with nx := fun σ' => ∃ m', m' < m ∧ W m' σ', ct := fun σ' => ∃ m', m' < m ∧ W m' σ', bk := D.nx } σ else D.nx σ
theorem lift_while {K : PySem.W.Frag} {Ps : List Addr} {tc : DT} {tb : DS} {D : Ends} {σ : L2.St} {H : Hp} (h : liftS K Ps (dWhile tc tb) D σ H) : tWhile (liftT K Ps tc) (liftS K Ps tb) D σ H := by
  obtain ⟨c, hs, as, σd, Dd, S, ⟨W, ⟨m0, w0⟩, turn⟩, r⟩ := h
  refine ⟨fun m σ' H' => ∃ hs' as' σd', Sts K Ps c hs' as' σ' H' σd' ∧ W m σd', ⟨m0, hs, as, σd, S, w0⟩, ?_⟩
  rintro m σ' H' ⟨hs', as', σd', T, w⟩
  refine ⟨c, hs', as', σd', _, T, turn m σd' w, fun b H1 h1 s1 => ?_⟩
  cases b with
  | true =>
    rw [if_pos rfl] at h1 ⊢
    refine ⟨fun σ2 H2 => ∃ hs2 as2 σd2, Sts K Ps c hs2 as2 σ2 H2 σd2 ∧ ∃ m', m' < m ∧ W m' σd2, fun σ2 H2 ⟨hs2, as2, σd2, T2, m', hm, w'⟩ => ⟨m', hm, hs2, as2, σd2, T2, w'⟩, ?_⟩
    exact ⟨c, hs', as', σd', _, T.step s1, h1, ⟨fun hs4 as4 σ4 H4 σd4 T4 q => ⟨hs4, as4, σd4, T4, q⟩, r.rt, fun hs4 as4 σ4 H4 σd4 T4 q => r.nx hs4 as4 σ4 H4 σd4 T4 q, fun hs4 as4 σ4 H4 σd4 T4 q => ⟨hs4, as4, σd4, T4, q⟩⟩⟩
  | false =>
    rw [if_neg (by simp)] at h1 ⊢
    exact r.nx hs' as' σ' H1 σd' (T.step s1) h1
section
variable {X : Cx} {Ps : List Addr} {tg it cnd : PySem.Expr} {bd : List Stmt} {pos : Pos} {ts : List Nat}
theorem psd_for {di : DI} {g : DG} {tb : DS} (hp : PassesOwn (model X.prog X.w) X.A X.env X.xe) (hc : X.calm = true) (hi : PI X tg it (liftI X.K Ps di)) (hg : PG X tg (liftG X.K Ps ts g)) (hb : PSs X bd (liftS X.K Ps tb))
    (hs : ∀ x, foldedSetIterable it X.env x = pure x := by intro _; rfl) : PS X (.For tg it bd [] pos) (liftS X.K Ps (dFor di g tb)) := ps_weak (ps_for hp hc hi hg hb hs) fun _ _ _ => lift_for
theorem psd_while {tc : DT} {tb : DS} (hp : PassesOwn (model X.prog X.w) X.A X.env X.xe) (hc : PT X cnd (liftT X.K Ps tc)) (hb : PSs X bd (liftS X.K Ps tb)) : PS X (.While cnd bd [] pos) (liftS X.K Ps (dWhile tc tb)) := ps_weak (ps_while hp hc hb) fun _ _ _ => lift_while
end
end Dl
end
section
set_option Elab.async false
set_option linter.all false
set_option maxRecDepth 100000
set_option maxHeartbeats 1000000
namespace Dl
open PySem PySem.Spec PyProof.Rows L2 HbE Evl
/-! ### comprehensions -/
def wipeD (σ : Sd) : List Nat → Sd
  | [] => σ
  | v :: vs => (wipeD σ vs).set v none
theorem wipeD_length (σ : Sd) : ∀ vs : List Nat, (wipeD σ vs).length = σ.length
  | [] => rfl
  | v :: vs => by unfold wipeD; rw [List.length_set, wipeD_length σ vs]
theorem wipeD_some {σ : Sd} {i : Nat} {x : WD} : ∀ {vs : List Nat}, (wipeD σ vs)[i]? = some (some x) → σ[i]? = some (some x) ∧ i ∉ vs
  | [], h => ⟨h, by simp⟩
  | v :: vs, h => by
    unfold wipeD at h
    by_cases e : v = i
    · subst e
      exfalso
      by_cases hl : v < (wipeD σ vs).length
      · rw [List.getElem?_set_self hl] at h; cases h
      · rw [List.getElem?_eq_none (by rw [List.length_set]; omega)] at h; cases h
    · rw [List.getElem?_set_ne e] at h
      obtain ⟨h1, h2⟩ := wipeD_some h
      exact ⟨h1, fun m => (List.mem_cons.mp m).elim (fun z => e z.symm) h2⟩
theorem Sts.wipe {K : PySem.W.Frag} {Ps : List Addr} {c : C0} {hs as : List Addr} {σ : L2.St} {H : Hp} {σd : Sd} (S : Sts K Ps c hs as σ H σd) (vs : List Nat) : Sts K Ps c hs as (wipe σ vs) H (wipeD σd vs) := by
  refine ⟨S.fr, by rw [wipe_length, wipeD_length, S.len], fun i w e => ?_, fun i j ds es n e1 e2 => ?_⟩
  · obtain ⟨h1, h2⟩ := wipeD_some e
    rw [wipe_out h2]
    exact S.slot i w h1
  · obtain ⟨h1, h2⟩ := wipeD_some e1
    obtain ⟨h3, h4⟩ := wipeD_some e2
    rw [wipe_out h2, wipe_out h4]
    exact S.dis i j ds es n h1 h3
def lcD (g : DG) (tt : DT) (te : DE) (σ0 : Sd) (Q : List PyData → Prop) : List PyData → List PyData → Prop
  | [], acc => Q acc
  | d :: ds, acc => g d σ0 fun σ2 => tt σ2 fun b => if b = true then te σ2 fun y => lcD g tt te σ0 Q ds (acc ++ [y]) else lcD g tt te σ0 Q ds acc
def dLc (di : DI) (g : DG) (tt : DT) (te : DE) (vs : List Nat) : DL := fun σ Q => di σ fun ds => ds.length ≤ 100000 ∧ lcD g tt te (wipeD σ vs) Q ds []
/-- a list that is held beside the def's -/
theorem Sts.beside {K : PySem.W.Frag} {Ps : List Addr} {c : C0} {hs as : List Addr} {σ : L2.St} {H H' : Hp} {σd : Sd} {p : Addr} {vs : List V} (S : Sts K Ps c hs as σ H σd) (s : Step hs Ps H H') (hp : H p = none) (h' : H' p = some (.lst vs)) : Sts K Ps c hs (p :: as) σ H' σd := by
  have T := S.step s
  have f := S.fr
  have e := ex_own (p := p) f s hp
  refine ⟨⟨f.wf0, T.fr.st, T.fr.hat, f.sub, fun b hb => ?_, f.bs.trans e⟩, S.len, fun j w q => ?_, S.dis⟩
  · rcases List.mem_cons.mp hb with rfl | hb
    · refine ⟨?_, by rw [h']; simp, fun z => ?_, fun z => ?_⟩
      · cases q : c.H0 b with
        | none => rfl
        | some o => exact absurd hp (f.st.some f.wf0 (by rw [q]; simp))
      · obtain ⟨o, e, _⟩ := (f.hat b z).1
        rw [hp] at e; cases e
      · obtain ⟨_, ps, e, _⟩ := f.wf.tab b z
        rw [hp] at e; cases e
    · exact T.fr.own b hb
  · obtain ⟨v, h1, h2⟩ := S.slot j w q
    refine ⟨v, h1, ?_⟩
    cases w with
    | dat d => exact dp_mono e h2
    | own es =>
      obtain ⟨a, us, rfl, ha, r1, r2⟩ := h2
      exact ⟨a, us, rfl, List.mem_cons_of_mem _ ha, s.keep a _ r1 (f.own a ha).2.2.1 (f.own a ha).2.2.2, dpAll_mono e r2⟩
    | hat => exact h2
/-- the list beside changes -/
theorem Sts.beside_upd {K : PySem.W.Frag} {Ps : List Addr} {c : C0} {hs as : List Addr} {σ : L2.St} {H : Hp} {σd : Sd} {p : Addr} {vs : List V} (S : Sts K Ps c hs (p :: as) σ H σd) (np : ∀ (i : Nat) (ds : List PyData), σd[i]? = some (some (.own ds)) → σ[i]? ≠ some (some (.ref p))) :
    Sts K Ps c hs (p :: as) σ (upd H p (.lst vs)) σd ∧ Ex (msk (Mk c hs (p :: as)) H) (msk (Mk c hs (p :: as)) (upd H p (.lst vs))) := by
  have f := S.fr
  obtain ⟨o1, o2, o3, o4⟩ := f.own p List.mem_cons_self
  have up : ∀ b, b ≠ p → upd H p (.lst vs) b = H b := fun b n => upd_ne n
  have ex : Ex (msk (Mk c hs (p :: as)) H) (msk (Mk c hs (p :: as)) (upd H p (.lst vs))) := fun x o e => by
    obtain ⟨n, e⟩ := msk_some.mp e
    exact msk_some.mpr ⟨n, by rw [up x fun z => n (.inr (.inr (z ▸ List.mem_cons_self)))]; exact e⟩
  refine ⟨⟨⟨f.wf0, ⟨fun x o e n m => ?_, fun q hq e => ?_, fun P hP e => ?_⟩, fun q hq => ?_, f.sub, fun x hx => ⟨(f.own x hx).1, ?_, (f.own x hx).2.2⟩, f.bs.trans ex⟩, S.len, fun j w e => ?_, S.dis⟩, ex⟩
  · rw [up x fun z => by rw [z, o1] at e; cases e]; exact f.st.keep x o e n m
  · rw [up q fun z => o3 (z ▸ f.sub q hq)]; exact (f.hat q (f.sub q hq)).1
  · obtain ⟨ps, q1, q2⟩ := (f.wf.tab P hP).2
    exact ⟨ps, by rw [up P fun z => o4 (z ▸ hP)]; exact q1, q2⟩
  · rw [up q fun z => o3 (z ▸ hq)]; exact f.hat q hq
  · by_cases z : x = p
    · rw [z, upd_same]; simp
    · rw [up x z]; exact (f.own x hx).2.1
  · obtain ⟨v, h1, h2⟩ := S.slot j w e
    refine ⟨v, h1, ?_⟩
    cases w with
    | dat d => exact dp_mono ex h2
    | own es =>
      obtain ⟨a, us, rfl, ha, r1, r2⟩ := h2
      have na : a ≠ p := fun z => np j es e (by rw [h1, z])
      exact ⟨a, us, rfl, ha, by rw [up a na]; exact r1, dpAll_mono ex r2⟩
    | hat => exact h2
theorem lift_lc {K : PySem.W.Frag} {Ps : List Addr} {di : DI} {g : DG} {tt : DT} {te : DE} {ts vs : List Nat} {σ : L2.St} {H : Hp} {Q : VK} (hts : ∀ t ∈ ts, t ∈ vs) (h : liftN K Ps (dLc di g tt te vs) σ H Q) :
    tLc (liftI K Ps di) (liftG K Ps ts g) (liftT K Ps tt) (lift K Ps te) vs σ H Q := by
  obtain ⟨c, hs, as, σd, Qd, S, h, k⟩ := h
  refine ⟨c, hs, as, σd, _, S, h, fun ds J H1 h1 s1 it D hD => ?_⟩
  obtain ⟨hlen, h1⟩ := h1
  have T := S.step s1
  have s2 : Step hs Ps H1 (upd H1 D (.lst [])) := Step.of_ex (Ex.new hD)
  have U := (T.beside s2 hD upd_same).wipe vs
  have exB : Ex (msk (Mk c hs as) H1) (msk (Mk c hs (D :: as)) (upd H1 D (.lst []))) := ex_own T.fr s2 hD
  have npD : ∀ (i : Nat) (es : List PyData), σd[i]? = some (some (.own es)) → σ[i]? ≠ some (some (.ref D)) := fun j es q z => by
    obtain ⟨v, q1, a, us, rfl, ha, q2, _⟩ := T.slot j _ q
    rw [q1] at z
    cases z
    rw [hD] at q2; cases q2
  refine ⟨fun i m H' => i + m = ds.length ∧ ∃ acc accd, Sts K Ps c hs (D :: as) (wipe σ vs) H' (wipeD σd vs) ∧ Ex (msk (Mk c hs as) H1) (msk (Mk c hs (D :: as)) H') ∧ Step hs Ps H H' ∧ H' D = some (.lst acc) ∧ DpAll K (msk (Mk c hs (D :: as)) H') acc accd ∧ accd.length ≤ i ∧ lcD g tt te (wipeD σd vs) Qd (ds.drop i) accd,
    ⟨ds.length, by omega, [], [], U, exB, s1.trans s2, upd_same, .nil, by simp, h1⟩, ?_⟩
  rintro i m H' ⟨em, acc, accd, V, eB, sH, hDl, hA, hAl, hl⟩
  obtain ⟨hgo, hst⟩ := it _ _ _ V.fr.wf eB
  by_cases hi : i < ds.length
  · rw [List.drop_eq_getElem_cons hi] at hl
    obtain ⟨g1, g2⟩ := hgo i ds[i] (List.getElem?_eq_getElem hi)
    have oD : ∀ {H3 H4 : Hp}, Step hs Ps H3 H4 → H3 D = some (.lst acc) → H4 D = some (.lst acc) := fun s e => s.keep D _ e (V.fr.own D List.mem_cons_self).2.2.1 (V.fr.own D List.mem_cons_self).2.2.2
    refine .inr ⟨g1, fun H2 => i + 1 + (m - 1) = ds.length ∧ ∃ acc accd, Sts K Ps c hs (D :: as) (wipe σ vs) H2 (wipeD σd vs) ∧ Ex (msk (Mk c hs as) H1) (msk (Mk c hs (D :: as)) H2) ∧ Step hs Ps H H2 ∧ H2 D = some (.lst acc) ∧ DpAll K (msk (Mk c hs (D :: as)) H2) acc accd ∧ accd.length ≤ i + 1 ∧ lcD g tt te (wipeD σd vs) Qd (ds.drop (i + 1)) accd,
      fun H2 q => ⟨m - 1, by omega, q⟩, fun x H2 y => ?_⟩
    obtain ⟨s3, rx⟩ := g2 x H2 y
    have hD2 := oD s3 hDl
    have e23 := V.fr.wf.ex s3
    refine ⟨c, hs, D :: as, _, ds[i], _, V.step s3, rx, hl, fun σ3 σd3 T3 w3 q3 => ⟨?_, ?_⟩⟩
    · have a := wipe_more (us := vs) w3 hts
      have b : wipe (wipe σ vs) vs = wipe σ vs := wipe_ext (by rw [wipe_length]) fun j hj => wipe_out hj
      rw [a]
      exact b
    · refine ⟨c, hs, D :: as, σd3, _, T3, q3, fun b H3 hb s4 => ?_⟩
      have s34 := s3.trans s4
      have e4 := T3.fr.wf.ex s4
      cases b with
      | true =>
        rw [if_pos rfl] at hb
        dsimp only
        rw [if_pos rfl]
        refine ⟨c, hs, D :: as, σd3, _, T3.step s4, hb, fun d z H4 h4 s5 r5 => ⟨acc, oD s5 (oD s4 hD2), sz_lt (by rw [hA.len]; omega), by omega, acc ++ [z], accd ++ [d], ?_⟩⟩
        have e5 := (T3.step s4).fr.wf.ex s5
        have W4 : Sts K Ps c hs (D :: as) (wipe σ vs) H4 (wipeD σd vs) := ((V.step s3).step s4).step s5
        obtain ⟨W5, e6⟩ := W4.beside_upd (vs := acc ++ [z]) fun j es q1 q2 => by
          obtain ⟨q3, q4⟩ := wipeD_some q1
          rw [wipe_out q4] at q2
          exact npD j es q3 q2
        have all := ((e23.trans e4).trans e5).trans e6
        refine ⟨W5, eB.trans all, ?_, upd_same, (dpAll_mono all hA).app (.cons (dp_mono e6 r5) .nil), by simp; omega, h4⟩
        have sH4 := sH.trans ((s3.trans s4).trans s5)
        refine ⟨fun a o q n1 n2 => ?_, fun p hp q => ?_, fun P hP q => ?_⟩
        · have na : a ≠ D := fun z => by
            have : H D ≠ none := by rw [← z, q]; simp
            exact absurd hD (s1.some S.fr.wf this)
          rw [upd_ne na]
          exact sH4.keep a o q n1 n2
        · have na : p ≠ D := fun z => (V.fr.own D List.mem_cons_self).2.2.1 (z ▸ hp)
          rw [upd_ne na]
          exact sH4.hat p hp q
        · have na : P ≠ D := fun z => (V.fr.own D List.mem_cons_self).2.2.2 (z ▸ hP)
          obtain ⟨ps, u1, u2⟩ := sH4.tab P hP q
          exact ⟨ps, by rw [upd_ne na]; exact u1, u2⟩
      | false =>
        rw [if_neg (by simp)] at hb
        dsimp only
        rw [if_neg (by simp)]
        exact ⟨by omega, acc, accd, (V.step s3).step s4, eB.trans (e23.trans e4), sH.trans s34, oD s4 hD2, dpAll_mono (e23.trans e4) hA, by omega, hb⟩
  · rw [List.drop_eq_nil_of_le (Nat.le_of_not_lt hi)] at hl
    refine .inl ⟨(show i = ds.length by omega) ▸ hst, k accd D acc H' hl sH ?_ hDl hA⟩
    exact none_of S.fr s1 hD
def dYes : DT := fun _ Q => Q true
theorem ptsd_nil {X : Cx} {Ps : List Addr} : PTs X [] (liftT X.K Ps dYes) := ⟨fun pins s σ H Q I h => by
  obtain ⟨c, hs, as, σd, Qd, S, h, k⟩ := h
  exact pts_nil.run pins s σ H Q I (k true H h Step.refl)⟩
theorem pn_lc {X : Cx} {Ps : List Addr} {elt tg iter : PySem.Expr} {ifs : List PySem.Expr} {scope : Scope} {own : List (Str × Nat)} {pos : Pos} {di : DI} {g : DG} {tt : DT} {te : DE} {ts : List Nat} (hc : X.calm = true) (hN : X.N.Nodup) (hi : PI X tg iter (liftI X.K Ps di)) (ok : BlkOk X.N X.env.scope scope own)
    (hg : ∀ (s : Shared) (H : Hp) (C : Addr) (cl : List (Str × Addr)) (fp : List Addr), PG (X.blk s H scope (compEnvC scope cl C X.env) fp) tg (liftG X.K Ps ts g))
    (ht : ∀ (s : Shared) (H : Hp) (C : Addr) (cl : List (Str × Addr)) (fp : List Addr), PTs (X.blk s H scope (compEnvC scope cl C X.env) fp) ifs (liftT X.K Ps tt))
    (he : ∀ (s : Shared) (H : Hp) (C : Addr) (cl : List (Str × Addr)) (fp : List Addr), PE (X.blk s H scope (compEnvC scope cl C X.env) fp) elt (lift X.K Ps te))
    (hs : ∀ x, foldedSetIterable iter X.env x = pure x := by intro _; rfl) (hts : ∀ t ∈ ts, t ∈ own.map (·.2) := by decide) :
    PE X (.ListComp elt [⟨tg, iter, ifs, 0⟩] scope pos) (liftN X.K Ps (dLc di g tt te (own.map (·.2)))) := pe_weak (pe_lc hc hN hi ok hg ht he hs) fun _ _ _ => lift_lc hts
end Dl
end
section
set_option Elab.async false
set_option linter.all false
set_option maxRecDepth 100000
set_option maxHeartbeats 1000000
namespace Dl
open PySem PySem.Spec PyProof.Rows L2 HbE Evl
section
variable {X : Cx} {Ps : List Addr} {e a b c0 : PySem.Expr} {es : List PySem.Expr} {pos : Pos} {de da db dc : DE} {ta tb : DT}
/-! ### tests -/
theorem ptd_bool (h : PE X e (lift X.K Ps de)) (he : ∀ whole, isTrue e X.env whole = (do let v ← whole; standAt e.pos; holding [v] (truthy v)) := by intro _; rfl) : PT X e (liftT X.K Ps (dTest de)) := pt_weak (pt_val h he) fun σ H Q h2 => lift_test h2
def dNot (t : DT) : DT := fun σ Q => t σ fun b => Q (!b)
theorem ptd_not (h : PT X e (liftT X.K Ps ta)) : PT X (.UnaryOp .Not e pos) (liftT X.K Ps (dNot ta)) := pt_weak (pt_not h) fun σ H Q ⟨c, hs, as, σd, Qd, S, hd, k⟩ => ⟨c, hs, as, σd, _, S, hd, fun b H' q s => k _ H' q s⟩
theorem pw_weak {t t' : TT} (h : PW X e t) (k : ∀ σ H Q, t' σ H Q → t σ H Q) : PW X e t' := ⟨fun wh pins s σ H Q I q => h.run wh pins s σ H Q I (k σ H Q q)⟩
def dAnd (t u : DT) : DT := fun σ Q => t σ fun b => if b = true then u σ Q else Q false
def dOr (t u : DT) : DT := fun σ Q => t σ fun b => if b = true then Q true else u σ Q
theorem pwd_and1 (h : PT X a (liftT X.K Ps ta)) : PW X (.BoolOp .And [a] pos) (liftT X.K Ps ta) := pw_and1 h
theorem pwd_or1 (h : PT X a (liftT X.K Ps ta)) : PW X (.BoolOp .Or [a] pos) (liftT X.K Ps ta) := pw_or1 h
theorem pwd_and {rest : List PySem.Expr} (ha : PT X a (liftT X.K Ps ta)) (hb : PW X (.BoolOp .And (b :: rest) pos) (liftT X.K Ps tb)) : PW X (.BoolOp .And (a :: b :: rest) pos) (liftT X.K Ps (dAnd ta tb)) := pw_weak (pw_and ha hb) fun σ H Q ⟨c, hs, as, σd, Qd, S, hd, k⟩ =>
  ⟨c, hs, as, σd, _, S, hd, fun d H1 h1 s1 => by
    cases d with
    | true => exact ⟨c, hs, as, σd, Qd, S.step s1, h1, fun d H' q s => k d H' q (s1.trans s)⟩
    | false => exact k _ H1 h1 s1⟩
theorem pwd_or {rest : List PySem.Expr} (ha : PT X a (liftT X.K Ps ta)) (hb : PW X (.BoolOp .Or (b :: rest) pos) (liftT X.K Ps tb)) : PW X (.BoolOp .Or (a :: b :: rest) pos) (liftT X.K Ps (dOr ta tb)) := pw_weak (pw_or ha hb) fun σ H Q ⟨c, hs, as, σd, Qd, S, hd, k⟩ =>
  ⟨c, hs, as, σd, _, S, hd, fun d H1 h1 s1 => by
    cases d with
    | false => exact ⟨c, hs, as, σd, Qd, S.step s1, h1, fun d H' q s => k d H' q (s1.trans s)⟩
    | true => exact k _ H1 h1 s1⟩
/-! ### .. as values -/
def dAndV (da db : DE) : DE := fun σ Q => da σ fun x => match x with
  | .bool b => if b = true then db σ Q else Q (.bool false)
  | _ => False
def dOrV (da db : DE) : DE := fun σ Q => da σ fun x => match x with
  | .bool b => if b = true then Q (.bool true) else db σ Q
  | _ => False
theorem pd_and {rest : List PySem.Expr} (ha : PE X a (lift X.K Ps da)) (hb : PE X (.BoolOp .And (b :: rest) pos) (lift X.K Ps db)) : PE X (.BoolOp .And (a :: b :: rest) pos) (lift X.K Ps (dAndV da db)) := pe_weak (pe_and ha hb) fun σ H Q ⟨c, hs, as, σd, Qd, S, hd, k⟩ =>
  ⟨c, hs, as, σd, _, S, hd, fun d v H1 h1 s1 r1 => by
    split at h1
    · rename_i d
      cases r1
      refine ⟨d, rfl, ?_⟩
      cases d with
      | true => exact ⟨c, hs, as, σd, Qd, S.step s1, h1, fun d v H' q s r => k d v H' q (s1.trans s) r⟩
      | false => exact k _ _ H1 h1 s1 (.bl false)
    · exact h1.elim⟩
theorem pd_or {rest : List PySem.Expr} (ha : PE X a (lift X.K Ps da)) (hb : PE X (.BoolOp .Or (b :: rest) pos) (lift X.K Ps db)) : PE X (.BoolOp .Or (a :: b :: rest) pos) (lift X.K Ps (dOrV da db)) := pe_weak (pe_or ha hb) fun σ H Q ⟨c, hs, as, σd, Qd, S, hd, k⟩ =>
  ⟨c, hs, as, σd, _, S, hd, fun d v H1 h1 s1 r1 => by
    split at h1
    · rename_i d
      cases r1
      refine ⟨d, rfl, ?_⟩
      cases d with
      | false => exact ⟨c, hs, as, σd, Qd, S.step s1, h1, fun d v H' q s r => k d v H' q (s1.trans s) r⟩
      | true => exact k _ _ H1 h1 s1 (.bl true)
    · exact h1.elim⟩
def dNotV (da : DE) : DE := fun σ Q => da σ fun x => match x with
  | .bool b => Q (.bool (!b))
  | _ => False
theorem pd_not (ha : PE X a (lift X.K Ps da)) : PE X (.UnaryOp .Not a pos) (lift X.K Ps (dNotV da)) := pe_weak (pe_not ha) fun σ H Q ⟨c, hs, as, σd, Qd, S, hd, k⟩ =>
  ⟨c, hs, as, σd, _, S, hd, fun d v H1 h1 s1 r1 => by
    split at h1
    · cases r1
      exact ⟨_, rfl, k _ _ H1 h1 s1 (.bl _)⟩
    · exact h1.elim⟩
def dIfE (t : DT) (da db : DE) : DE := fun σ Q => t σ fun b => if b = true then da σ Q else db σ Q
theorem pd_if (hc : PT X c0 (liftT X.K Ps ta)) (ha : PE X a (lift X.K Ps da)) (hb : PE X b (lift X.K Ps db)) : PE X (.IfExp c0 a b pos) (lift X.K Ps (dIfE ta da db)) := pe_weak (pe_ifExp hc ha hb) fun σ H Q ⟨c, hs, as, σd, Qd, S, hd, k⟩ =>
  ⟨c, hs, as, σd, _, S, hd, fun d H1 h1 s1 => by
    cases d with
    | true => exact ⟨c, hs, as, σd, Qd, S.step s1, h1, fun d v H' q s r => k d v H' q (s1.trans s) r⟩
    | false => exact ⟨c, hs, as, σd, Qd, S.step s1, h1, fun d v H' q s r => k d v H' q (s1.trans s) r⟩⟩
/-- one-place operations -/
def dNeg (da : DE) : DE := fun σ Q => da σ fun x => match x with
  | .int i => Q (.int (-i))
  | _ => False
theorem pd_neg (ha : PE X a (lift X.K Ps da)) : PE X (.UnaryOp .USub a pos) (lift X.K Ps (dNeg da)) := pe_weak (pe_un un_neg ha) fun σ H Q ⟨c, hs, as, σd, Qd, S, hd, k⟩ =>
  ⟨c, hs, as, σd, _, S, hd, fun d v H1 h1 s1 r1 => by
    split at h1
    · cases r1
      exact ⟨_, rfl, k _ _ H1 h1 s1 (.int _)⟩
    · exact h1.elim⟩
/-- a < b < c -/
def dChain (f g : PyData → PyData → (PyData → Prop) → Prop) (da db dc : DE) : DE := fun σ Q => da σ fun x => db σ fun y => f x y fun z => match z with
  | .bool k => if k = true then dc σ fun w => g y w Q else Q (.bool false)
  | _ => False
theorem lift_chain {r r' : R2} {f g : PyData → PyData → (PyData → Prop) → Prop} {σ : L2.St} {H : Hp} {Q : VK} (ho : Op2 X.K Ps r f) (ho' : Op2 X.K Ps r' g) (h : lift X.K Ps (dChain f g da db dc) σ H Q) : tChain r r' (lift X.K Ps da) (lift X.K Ps db) (lift X.K Ps dc) σ H Q := by
  obtain ⟨c, hs, as, σd, Qd, S, hd, k⟩ := h
  refine ⟨c, hs, as, σd, _, S, hd, fun x v H1 h1 s1 r1 => ⟨c, hs, as, σd, _, S.step s1, h1, fun y w H2 h2 s2 r2 => ?_⟩⟩
  refine ho _ hs H2 v w x y _ _ ((S.step s1).step s2).fr.wf (dp_mono ((S.step s1).fr.wf.ex s2) r1) r2 h2 fun d z H3 h3 s3 r3 => ?_
  have s13 := (s1.trans s2).trans s3
  split at h3
  · rename_i kk
    cases r3
    refine ⟨kk, rfl, ?_⟩
    cases kk with
    | true =>
      refine ⟨c, hs, as, σd, _, S.step s13, h3, fun y' w' H4 h4 s4 r4 => ?_⟩
      have e3 := ((S.step s1).step s2).fr.wf.ex s3
      have e4 := (S.step s13).fr.wf.ex s4
      exact ho' _ hs H4 w w' y y' Qd _ ((S.step s13).step s4).fr.wf (dp_mono (e3.trans e4) r2) r4 h4 fun d z H5 h5 s5 r5 => k d z H5 h5 ((s13.trans s4).trans s5) r5
    | false => exact k _ _ H3 h3 s13 (.bl false)
  · exact h3.elim
theorem pd_chain {op op' : CmpOp} {r r' : R2} {f g : PyData → PyData → (PyData → Prop) → Prop} (h : OpR X (compareOp op) r) (h' : OpR X (compareOp op') r') (ho : Op2 X.K Ps r f) (ho' : Op2 X.K Ps r' g) (ha : PE X a (lift X.K Ps da)) (hb : PE X b (lift X.K Ps db)) (hc : PE X c0 (lift X.K Ps dc))
    (hm : lastMarks [op, op'] [b, c0] = false := by with_unfolding_all rfl) : PE X (.Compare a [op, op'] [b, c0] pos) (lift X.K Ps (dChain f g da db dc)) := pe_weak (pe_chain h h' ha hb hc hm) fun _ _ _ => lift_chain ho ho'
theorem ptd_chain {op op' : CmpOp} {r r' : R2} {f g : PyData → PyData → (PyData → Prop) → Prop} (h : OpR X (compareOp op) r) (h' : OpR X (compareOp op') r') (ho : Op2 X.K Ps r f) (ho' : Op2 X.K Ps r' g) (ha : PE X a (lift X.K Ps da)) (hb : PE X b (lift X.K Ps db)) (hc : PE X c0 (lift X.K Ps dc))
    (hm : lastMarks [op, op'] [b, c0] = false := by with_unfolding_all rfl) : PT X (.Compare a [op, op'] [b, c0] pos) (liftT X.K Ps (dTest (dChain f g da db dc))) := pt_weak (pt_chain h h' ha hb hc hm) fun σ H Q h => by
  have h2 := lift_test h
  unfold tTest at h2 ⊢
  obtain ⟨c, hs, as, σd, Qd, S, hd, k⟩ := h2
  exact lift_chain ho ho' ⟨c, hs, as, σd, Qd, S, hd, k⟩
end
/-! ### operations -/
section
variable {K : PySem.W.Frag} {Ps : List Addr}
def fEq (neg : Bool) : PyData → PyData → (PyData → Prop) → Prop := fun x y Q => SeqAt.shaped x = true ∧ SeqAt.shaped y = true ∧ Q (.bool (if neg then !PyData.eqv x y else PyData.eqv x y))
theorem op2_eq : Op2 K Ps (rEqD K) (fEq false) := fun M hs H v w x y Qd Q wf hx hy h k => ⟨x, y, dp_mono msk_ex hx, dp_mono msk_ex hy, h.1, h.2.1, k _ _ H h.2.2 Step.refl (.bl _)⟩
theorem op2_ne : Op2 K Ps (rNeD K) (fEq true) := fun M hs H v w x y Qd Q wf hx hy h k => ⟨x, y, dp_mono msk_ex hx, dp_mono msk_ex hy, h.1, h.2.1, k _ _ H h.2.2 Step.refl (.bl _)⟩
/-- + of tuples -/
def fCatT : PyData → PyData → (PyData → Prop) → Prop := fun x y Q => match x, y with
  | .tuple xs, .tuple ys => xs.length + ys.length ≤ 100000 ∧ Q (.tuple (xs ++ ys))
  | _, _ => False
theorem op2_catT : Op2 K Ps (rCatA K) fCatT := by
  intro M hs H v w x y Qd Q wf hx hy h k
  unfold fCatT at h
  split at h
  · obtain ⟨hz, hq⟩ := h
    have hx0 := hx
    have hy0 := hy
    cases hx with
    | tup x1 x2 =>
      cases hy with
      | tup y1 y2 =>
        refine ⟨_, _, _, _, rfl, rfl, ex_t msk_ex x1, ex_t msk_ex y1, sz_of (by rw [x2.len, y2.len]; exact hz), fun e => ?_, fun e1 e2 => ?_, fun e1 e2 p hp => ?_⟩
        · subst e
          cases x2
          exact k _ _ H hq Step.refl hy0
        · subst e2
          cases y2
          rw [List.append_nil] at hq
          exact k _ _ H hq Step.refl hx0
        · exact k _ _ _ hq (Step.of_ex (Ex.new hp)) (dp_newT wf hp (x2.app y2))
  · exact h.elim
end
end Dl
end
section
set_option Elab.async false
set_option linter.all false
set_option maxRecDepth 100000
set_option maxHeartbeats 1000000
namespace Dl
open PySem PySem.Spec PyProof.Rows L2 HbE Evl
/-! ### built-ins of values -/
def OpN (K : PySem.W.Frag) (Ps : List Addr) (r : List V → Hp → VK → Prop) (f : List PyData → (PyData → Prop) → Prop) : Prop := ∀ (M : Addr → Prop) (hs : List Addr) (H : Hp) (vs : List V) (ds : List PyData) (Qd : PyData → Prop) (Q : VK),
  Wf Ps M hs H → DpAll K (msk M H) vs ds → f ds Qd → (∀ d z H', Qd d → Step hs Ps H H' → Dp K (msk M H') z d → Q z H') → r vs H Q
def dOpN (f : List PyData → (PyData → Prop) → Prop) (da : DA) : DE := fun σ Q => dDats da σ fun ds => f ds Q
theorem lift_opN {K : PySem.W.Frag} {Ps : List Addr} {r : List V → Hp → VK → Prop} {f : List PyData → (PyData → Prop) → Prop} {da : DA} {σ : L2.St} {H : Hp} {Q : VK} (ho : OpN K Ps r f) (h : lift K Ps (dOpN f da) σ H Q) : tCB r (liftA K Ps da) σ H Q := by
  obtain ⟨c, hs, as, σd, Qd, S, hd, k⟩ := h
  refine ⟨c, hs, as, σd, _, S, hd, fun ws vs H1 h1 s1 r1 => ?_⟩
  split at h1
  · rename_i ds q
    exact ho _ hs H1 vs ds Qd Q (S.step s1).fr.wf (dats_dp r1 q) h1 fun d z H' h s r => k d z H' h (s1.trans s) r
  · exact h1.elim
section
variable {K : PySem.W.Frag} {Ps : List Addr}
def fAbs : List PyData → (PyData → Prop) → Prop := fun ds Q => match ds with
  | [.int i] => Q (.int (if i < 0 then -i else i))
  | _ => False
theorem opn_abs : OpN K Ps (fun xs H Q => ∃ i, xs = [.int i] ∧ Q (.int (if i < 0 then -i else i)) H) fAbs := by
  intro M hs H vs ds Qd Q wf h f k
  unfold fAbs at f
  split at f
  · cases h with | cons h1 h2 => cases h2; cases h1; exact ⟨_, rfl, k _ _ H f Step.refl (.int _)⟩
  · exact f.elim
def fInt : List PyData → (PyData → Prop) → Prop := fun ds Q => match ds with
  | [.int i] => Q (.int i)
  | [.bool b] => Q (.int (if b then 1 else 0))
  | _ => False
theorem opn_int : OpN K Ps rIntA fInt := by
  intro M hs H vs ds Qd Q wf h f k
  unfold fInt at f
  split at f
  · cases h with | cons h1 h2 => cases h2; cases h1; exact k _ _ H f Step.refl (.int _)
  · cases h with | cons h1 h2 => cases h2; cases h1; exact k _ _ H f Step.refl (.int _)
  · exact f.elim
def fMax2 : List PyData → (PyData → Prop) → Prop := fun ds Q => match ds with
  | [.int i, .int j] => Q (.int (if j > i then j else i))
  | _ => False
theorem opn_max2 : OpN K Ps (fun xs H Q => ∃ i j, xs = [.int i, .int j] ∧ Q (.int (if j > i then j else i)) H) fMax2 := by
  intro M hs H vs ds Qd Q wf h f k
  unfold fMax2 at f
  split at f
  · cases h with | cons h1 h2 => cases h2 with | cons h2 h3 => cases h3; cases h1; cases h2; exact ⟨_, _, rfl, k _ _ H f Step.refl (.int _)⟩
  · exact f.elim
def fMin2 : List PyData → (PyData → Prop) → Prop := fun ds Q => match ds with
  | [.int i, .int j] => Q (.int (if j < i then j else i))
  | _ => False
theorem opn_min2 : OpN K Ps (fun xs H Q => ∃ i j, xs = [.int i, .int j] ∧ Q (.int (if j < i then j else i)) H) fMin2 := by
  intro M hs H vs ds Qd Q wf h f k
  unfold fMin2 at f
  split at f
  · cases h with | cons h1 h2 => cases h2 with | cons h2 h3 => cases h3; cases h1; cases h2; exact ⟨_, _, rfl, k _ _ H f Step.refl (.int _)⟩
  · exact f.elim
def fGcd : List PyData → (PyData → Prop) → Prop := fun ds Q => match ds with
  | [.int i, .int j] => Q (.int ((Nat.gcd i.natAbs j.natAbs : Nat) : Int))
  | _ => False
theorem opn_gcd : OpN K Ps rGcd fGcd := by
  intro M hs H vs ds Qd Q wf h f k
  unfold fGcd at f
  split at f
  · cases h with | cons h1 h2 => cases h2 with | cons h2 h3 => cases h3; cases h1; cases h2; exact ⟨_, _, rfl, k _ _ H f Step.refl (.int _)⟩
  · exact f.elim
/-! isinstance with a built-in type -/
def tyD : PyData → String
  | .none => "NoneType"
  | .bool _ => "bool"
  | .int _ => "int"
  | .str _ => "str"
  | .list _ => "list"
  | .tuple _ => "tuple"
  | .dict _ => "dict"
theorem ty_of {H : Hp} {v : V} {d : PyData} (h : Dp K H v d) : TyX K H v (.type (tyD d)) := by
  cases h with
  | non => exact .base .non
  | bl b => exact .base (.bl b)
  | int i => exact .base (.int i)
  | str x => exact .base (.str x)
  | lst h1 _ =>
    rcases h1 with (h | ⟨o, h⟩) | ⟨o, _, _, h, hc, _⟩
    · exact .base (.lst h)
    · exact .base (.frz h)
    · exact .kList h hc
  | tup h1 _ =>
    rcases h1 with (h | ⟨o, h⟩) | ⟨o, _, _, h, hc, _⟩
    · exact .base (.tup h)
    · exact .fTuple h
    · exact .kTuple h hc
/-- what isinstance of such a type and class says -/
def isB (a b : String) : Bool := (kitB a b).getD false
def dIsi (T : String) (de : DE) : DE := fun σ Q => de σ fun d => Q (.bool (isB (tyD d) T))
def isOk (T : String) : Bool := ["NoneType", "bool", "int", "str", "list", "tuple", "dict"].all fun a => (kitB a T).isSome
theorem isOk_at {T : String} (h : isOk T = true) (d : PyData) : kitB (tyD d) T = some (isB (tyD d) T) := by
  have : (kitB (tyD d) T).isSome = true := by
    unfold isOk at h
    exact List.all_eq_true.mp h (tyD d) (by cases d <;> simp [tyD])
  unfold isB
  obtain ⟨b, e⟩ := Option.isSome_iff_exists.mp this
  rw [e]
  rfl
end
section
variable {X : Cx} {Ps : List Addr} {e a b c0 : PySem.Expr} {es : List PySem.Expr} {pos p p2 : Pos} {de : DE}
theorem pd_isi {T : String} (hT : isOk T = true) (he : PE X e (lift X.K Ps de)) (hg : Gl X "isinstance") (hm : X.mg "isinstance" = none) (hx : PE X c0 (tC (.ty T)))
    (h1 : starEach [e, c0] X.env = (false, eval e X.env) :: starEach [c0] X.env := by rfl) (h2 : starEach [c0] X.env = (false, eval c0 X.env) :: starEach [] X.env := by rfl) (hpl : (backTo pos (starEach [c0] X.env)).any (·.1) = false := by rfl) :
    PE X (.Call (.Name "isinstance" p) [e, c0] [] pos) (lift X.K Ps (dIsi T de)) :=
  pe_weak (pe_callB call_isi hg hm boot_isinstance (pa_cons he (pa_cons hx pa_nil h2) h1) (by decide) (by decide) h1 hpl) fun σ H Q ⟨c, hs, as, σd, Qd, S, hd, k⟩ =>
    ⟨c, hs, as, σd, _, S, hd, fun d v H1 h1 s1 r1 => ⟨v, .ty T, .type (tyD d), .type T, _, rfl, .ty T, ty_of (dp_mono msk_ex r1), kit_ty (isOk_at hT d), k _ _ H1 h1 s1 (.bl _)⟩⟩
theorem pd_callN {id : String} {x : Str} {r : List V → Hp → VK → Prop} {f : List PyData → (PyData → Prop) → Prop} {da : DA} (hc : CallR X (.builtin id) r) (ho : OpN X.K Ps r f) (hg : Gl X x) (hm : X.mg x = none) (hv : bootBuiltins x = some (.builtin id)) (ha : PA X (e :: es) (liftA X.K Ps da)) (hn : x ≠ "__name__" := by decide) (hdb : (x == ("__debug__" : Str)) = false := by decide)
    (he : starEach (e :: es) X.env = (false, eval e X.env) :: starEach es X.env := by rfl) (hpl : (backTo pos (starEach es X.env)).any (·.1) = false := by rfl) : PE X (.Call (.Name x p) (e :: es) [] pos) (lift X.K Ps (dOpN f da)) :=
  pe_weak (pe_callB hc hg hm hv ha hn hdb he hpl) fun _ _ _ => lift_opN ho
theorem pd_callTyN {T : String} {x : Str} {r : List V → Hp → VK → Prop} {f : List PyData → (PyData → Prop) → Prop} {da : DA} (hc : CallR X (.type T) r) (ho : OpN X.K Ps r f) (hg : Gl X x) (hm : X.mg x = none) (hv : bootBuiltins x = some (.type T)) (ha : PA X (e :: es) (liftA X.K Ps da)) (hn : x ≠ "__name__" := by decide) (hdb : (x == ("__debug__" : Str)) = false := by decide)
    (he : starEach (e :: es) X.env = (false, eval e X.env) :: starEach es X.env := by rfl) (hpl : (backTo pos (starEach es X.env)).any (·.1) = false := by rfl) : PE X (.Call (.Name x p) (e :: es) [] pos) (lift X.K Ps (dOpN f da)) :=
  pe_weak (pe_callTy hc hg hm hv ha hn hdb he hpl) fun _ _ _ => lift_opN ho
/-- built-in functions that the program imports -/
theorem pd_callF {id : String} {x : Str} {r : List V → Hp → VK → Prop} {f : List PyData → (PyData → Prop) → Prop} {da : DA} (hc : CallR X (.builtin id) r) (ho : OpN X.K Ps r f) (hg : Gl X x) (hm : X.mg x = some (.builtin id)) (ha : PA X (e :: es) (liftA X.K Ps da)) (hdb : (x == ("__debug__" : Str)) = false := by decide)
    (he : starEach (e :: es) X.env = (false, eval e X.env) :: starEach es X.env := by rfl) (hpl : (backTo pos (starEach es X.env)).any (·.1) = false := by rfl) : PE X (.Call (.Name x p) (e :: es) [] pos) (lift X.K Ps (dOpN f da)) :=
  pe_weak (pe_callBfun hc hg hm ha hdb he hpl) fun _ _ _ => lift_opN ho
/-! of one list or tuple -/
theorem pd_callQ {id : String} {x : Str} {r : List V → Hp → VK → Prop} {f : Bool → List PyData → (PyData → Prop) → Prop} {dq : DQ} (hc : CallR X (.builtin id) r) (ho : OpQ X.K Ps r f) (hg : Gl X x) (hm : X.mg x = none) (hv : bootBuiltins x = some (.builtin id)) (ha : PE X e (liftQ X.K Ps dq)) (hn : x ≠ "__name__" := by decide) (hdb : (x == ("__debug__" : Str)) = false := by decide)
    (he : starEach [e] X.env = (false, eval e X.env) :: starEach [] X.env := by rfl) : PE X (.Call (.Name x p) [e] [] pos) (lift X.K Ps (dOpQ f dq)) :=
  pe_weak (pe_callB hc hg hm hv (pa_cons ha pa_nil he) hn hdb he (by rfl)) fun _ _ _ => lift_opQ ho
theorem pd_len {dq : DQ} (hg : Gl X "len") (hm : X.mg "len" = none) (ha : PE X e (liftQ X.K Ps dq)) (he : starEach [e] X.env = (false, eval e X.env) :: starEach [] X.env := by rfl) : PE X (.Call (.Name "len" p) [e] [] pos) (lift X.K Ps (dOpQ fLen dq)) :=
  pd_callQ call_len_seq opq_len hg hm boot_len ha (by decide) (by decide) he
def fTuple : Bool → List PyData → (PyData → Prop) → Prop := fun _ ds Q => Q (.tuple ds)
theorem lift_tuple {dq : DQ} {σ : L2.St} {H : Hp} {Q : VK} (h : lift X.K Ps (dOpQ fTuple dq) σ H Q) : tCB (fun xs H Q => ∃ p ys, xs = [V.ref p] ∧ ((SqL X.K H p ys ∧ ∀ l, H l = none → Q (.ref l) (upd H l (.tup ys))) ∨ (SqT X.K H p ys ∧ Q (.ref p) H))) (tCons (liftQ X.K Ps dq) tNil) σ H Q := by
  obtain ⟨c, hs, as, σd, Qd, S, hd, k⟩ := h
  refine ⟨c, hs, as, σd, _, S, hd, fun b ds v H1 h1 s1 r1 => ?_⟩
  cases b with
  | true =>
    obtain ⟨p, xs, rfl, h3, h4⟩ := r1.ex
    exact ⟨p, xs, rfl, .inl ⟨h3, fun l hl => k _ _ _ h1 (s1.trans (Step.of_ex (Ex.new hl))) (dp_newT (S.step s1).fr.wf hl h4)⟩⟩
  | false =>
    rcases r1 with r | ⟨z, _⟩
    · have r' : Dp X.K (msk (Mk c hs as) H1) v (.tuple ds) := r
      have r0 := r'
      cases r' with
      | tup h3 h4 => exact ⟨_, _, rfl, .inr ⟨ex_t msk_ex h3, k _ _ H1 h1 s1 r0⟩⟩
    · cases z
theorem pd_tuple {dq : DQ} (hg : Gl X "tuple") (hm : X.mg "tuple" = none) (hv : bootBuiltins "tuple" = some (.type "tuple")) (ha : PE X e (liftQ X.K Ps dq)) (he : starEach [e] X.env = (false, eval e X.env) :: starEach [] X.env := by rfl) : PE X (.Call (.Name "tuple" p) [e] [] pos) (lift X.K Ps (dOpQ fTuple dq)) :=
  pe_weak (pe_callTy call_tuple_of hg hm hv (pa_cons ha pa_nil he) (by decide) (by decide) he (by rfl)) fun _ _ _ => lift_tuple
/-- a list of ints -/
def intsD : List PyData → Option (List Int)
  | [] => some []
  | .int i :: r => match intsD r with
    | some is => some (i :: is)
    | none => none
  | _ :: _ => none
theorem intsD_dp {K : PySem.W.Frag} {H : Hp} : ∀ {ds : List PyData} {vs : List V} {ns : List Int}, DpAll K H vs ds → intsD ds = some ns → vs = ns.map V.int
  | [], _, _, .nil, h => by cases h; rfl
  | .int i :: r, _, ns, .cons h1 h2, h => by
    unfold intsD at h
    split at h
    · rename_i is q
      cases h
      cases h1
      rw [List.map_cons, intsD_dp h2 q]
    · cases h
theorem intsD_map (ns : List Int) : intsD (ns.map PyData.int) = some ns := by
  induction ns with
  | nil => rfl
  | cons n ns ih => simp [intsD, ih]
def fSum : Bool → List PyData → (PyData → Prop) → Prop := fun b ds Q => b = true ∧ match intsD ds with
  | some ns => Q (.int ns.sum)
  | none => False
theorem opq_sum {K : PySem.W.Frag} : OpQ K Ps (rSum K) fSum := by
  intro M hs H p xs b ds Qd Q wf h1 h2 h k
  obtain ⟨rfl, h⟩ := h
  split at h
  · rename_i ns q
    rw [intsD_dp h2 q] at h1
    exact ⟨p, ns, rfl, h1, k _ _ H h Step.refl (.int _)⟩
  · exact h.elim
end
end Dl
end
section
set_option Elab.async false
set_option linter.all false
set_option maxRecDepth 100000
set_option maxHeartbeats 1000000
namespace Dl
open PySem PySem.Spec PyProof.Rows L2 HbE Evl
theorem b_int : bootBuiltins "int" = some (.type "int") := by decide +kernel
theorem b_abs : bootBuiltins "abs" = some (.builtin "abs") := by decide +kernel
theorem b_max : bootBuiltins "max" = some (.builtin "max") := by decide +kernel
theorem b_min : bootBuiltins "min" = some (.builtin "min") := by decide +kernel
theorem b_sum : bootBuiltins "sum" = some (.builtin "sum") := by decide +kernel
theorem b_tuple : bootBuiltins "tuple" = some (.type "tuple") := by decide +kernel
theorem b_list : bootBuiltins "list" = some (.type "list") := by decide +kernel
section
variable {X : Cx} {Ps : List Addr} {e o ix tg : PySem.Expr} {pos apos cpos tpos : Pos} {de di : DE} {i : Nat}
theorem psd_app (ho : PE X o (tVar i)) (he : PE X e (lift X.K Ps de)) (hbase : attributeBase o "append" X.env (eval o X.env) = eval o X.env := by rfl)
    (hfew : ((backTo cpos (starEach [e] X.env)).all (fun x => !x.1) && (backToKw cpos (keywordEach [] X.env)).all (fun x => x.1.isSome) && decide (([e] : List PySem.Expr).length + ([] : List Keyword).length + (if ([] : List Keyword).isEmpty then 0 else 1) < 30)) = true := by rfl)
    (hline : (apos.endLine == cpos.line) = true := by rfl) (hs : starEach [e] X.env = (false, eval e X.env) :: starEach [] X.env := by rfl) (hplain : (backTo cpos (starEach [] X.env)).any (·.1) = false := by rfl)
    (hw : swapsWith (.Call (.Attribute o "append" apos) [e] [] cpos) none pos.line X.env = pure false := by rfl) :
    PS X (.Expr (.Call (.Attribute o "append" apos) [e] [] cpos) pos) (liftS X.K Ps (dApp i de)) :=
  ps_weak (ps_expr (pe_bm PySem.F.plainAttrs_list PySem.F.slot_list_append PySem.F.type_list_append mt_append ho (pa_cons he pa_nil hs) hbase hfew hline hs hplain) hw) fun _ _ _ => lift_app
theorem psd_put (ho : PE X o (tVar i)) (hi : PE X ix (lift X.K Ps di)) (he : PE X e (lift X.K Ps de))
    (ha : ∀ v, assign (.Subscript o ix tpos) X.env v = (do
      let ov ← holding [v] (eval o X.env)
      let iv ← holding [v, ov] (eval ix X.env)
      standAt tpos
      holding [v, ov, iv] (setItem ov iv v)
      release [v, ov, iv] []) := by intro _; rfl)
    (hs : swapsWithSole [.Subscript o ix tpos] e pos.line X.env = pure false := by rfl) (hw : swappedStores [.Subscript o ix tpos] e X.env = pure none := by rfl)
    (h1 : (assignEach [.Subscript o ix tpos] X.env).map (·.2) = [assign (.Subscript o ix tpos) X.env] := by rfl) :
    PS X (.Assign [.Subscript o ix tpos] e pos) (liftS X.K Ps (dPut i di de)) := ps_weak (ps_asg he (pg_sub ho hi set_A ha) hs hw h1) fun _ _ _ => lift_put
theorem psd_asgG {g : DG} {ts : List Nat} (he : PE X e (lift X.K Ps de)) (hg : PG X tg (liftG X.K Ps ts g)) (hs : swapsWithSole [tg] e pos.line X.env = pure false := by rfl) (hw : swappedStores [tg] e X.env = pure none := by rfl)
    (h1 : (assignEach [tg] X.env).map (·.2) = [assign tg X.env] := by rfl) : PS X (.Assign [tg] e pos) (liftS X.K Ps (dAsgG g de)) := ps_weak (ps_asg he hg hs hw h1) fun _ _ _ => lift_asgG
/-- x, y = e, f -/
def dPar (i j : Nat) (da : DA) : DS := fun D σ => da σ fun ws => match ws with
  | [.dat d, .dat d'] => D.nx ((σ.set i (some (.dat d))).set j (some (.dat d')))
  | _ => False
theorem lift_par {j : Nat} {da : DA} {D : Ends} {σ : L2.St} {H : Hp} (h : liftS X.K Ps (dPar i j da) D σ H) : tPar i j (liftA X.K Ps da) D σ H := by
  obtain ⟨c, hs, as, σd, Dd, S, h, r⟩ := h
  refine ⟨c, hs, as, σd, _, S, h, fun ws vs H1 h1 s1 r1 => ?_⟩
  split at h1
  · cases r1 with
    | cons q1 q2 =>
      cases q2 with
      | cons q2 q3 =>
        cases q3
        exact ⟨_, _, rfl, r.nx hs as _ H1 _ (((S.step s1).set (.dat _) (fun _ z => by cases z) q1).set (.dat _) (fun _ z => by cases z) q2) h1⟩
  · exact h1.elim
theorem psd_par {j : Nat} {x y : Str} {a b : PySem.Expr} {da : DA} {px py pt : Pos} {kt k2 pt2} (hc : X.calm = true) (hN : X.N.Nodup) (hi : X.N[i]? = some x) (hj : X.N[j]? = some y) (hij : i ≠ j)
    (hx : X.env.scope.names.lookup x = some .local) (hy : X.env.scope.names.lookup y = some .local) (ha : PA X [a, b] (liftA X.K Ps da))
    (hw : swappedStores [.Tuple [.Name x px, .Name y py] kt pt] (.Tuple [a, b] k2 pt2) X.env = pure (some [x, y]))
    (hs : swapsWithSole [.Tuple [.Name x px, .Name y py] kt pt] (.Tuple [a, b] k2 pt2) pos.line X.env = pure false := by rfl) :
    PS X (.Assign [.Tuple [.Name x px, .Name y py] kt pt] (.Tuple [a, b] k2 pt2) pos) (liftS X.K Ps (dPar i j da)) := ps_weak (ps_par hc hN hi hj hij hx hy ha hw hs) fun _ _ _ => lift_par
theorem lift_new {dl : DL} {σ : L2.St} {H : Hp} {Q : VK} (h : lift X.K Ps (dL dl) σ H Q) : liftN X.K Ps dl σ H Q := by
  obtain ⟨c, hs, as, σd, Qd, S, hd, k⟩ := h
  exact ⟨c, hs, as, σd, _, S, hd, fun ds p vs H' hq st hp h' r => k _ _ _ hq st (by
    have np : ¬ Mk c hs as p := S.fr.wf.fresh hp
    exact .lst (.inl (.inl (msk_some.mpr ⟨np, h'⟩))) (dpAll_mono (msk_less fun a m => by
      rcases m with m | m | m
      · exact .inl m
      · exact .inr (.inl m)
      · exact .inr (.inr (List.mem_cons_of_mem _ m))) r))⟩
section
variable {y : Str} {py spos : Pos} {elt iter : PySem.Expr} {ifs : List PySem.Expr} {scope : Scope} {own : List (Str × Nat)} {dit : DI} {g : DG} {tt : DT} {te : DE} {ts : List Nat}
/-- name = [..], the name a local -/
theorem psd_setLcO (hc : X.calm = true) (hN : X.N.Nodup) (hy : X.N[i]? = some y) (hyl : X.env.scope.names.lookup y = some .local)
    (hsw : swapsWith (.ListComp elt [⟨tg, iter, ifs, 0⟩] scope pos) (some (.Name y py)) spos.line X.env = pure true) (hi : PI X tg iter (liftI X.K Ps dit)) (ok : BlkOk X.N X.env.scope scope own)
    (hg : ∀ (s : Shared) (H : Hp) (C : Addr) (cl : List (Str × Addr)) (fp : List Addr), PG (X.blk s H scope (compEnvC scope cl C X.env) fp) tg (liftG X.K Ps ts g))
    (ht : ∀ (s : Shared) (H : Hp) (C : Addr) (cl : List (Str × Addr)) (fp : List Addr), PTs (X.blk s H scope (compEnvC scope cl C X.env) fp) ifs (liftT X.K Ps tt))
    (he : ∀ (s : Shared) (H : Hp) (C : Addr) (cl : List (Str × Addr)) (fp : List Addr), PE (X.blk s H scope (compEnvC scope cl C X.env) fp) elt (lift X.K Ps te))
    (hs : ∀ x, foldedSetIterable iter X.env x = pure x := by intro _; rfl) (hts : ∀ t ∈ ts, t ∈ own.map (·.2) := by decide) :
    PS X (.Assign [.Name y py] (.ListComp elt [⟨tg, iter, ifs, 0⟩] scope pos) spos) (liftS X.K Ps (dSetO i (dLc dit g tt te (own.map (·.2))))) :=
  ps_weak (ps_setLc hc hN hy hyl hsw hi ok hg ht he hs) fun D σ H h => lift_lc hts (lift_setO h)
theorem psd_setLc (hc : X.calm = true) (hN : X.N.Nodup) (hy : X.N[i]? = some y) (hyl : X.env.scope.names.lookup y = some .local)
    (hsw : swapsWith (.ListComp elt [⟨tg, iter, ifs, 0⟩] scope pos) (some (.Name y py)) spos.line X.env = pure true) (hi : PI X tg iter (liftI X.K Ps dit)) (ok : BlkOk X.N X.env.scope scope own)
    (hg : ∀ (s : Shared) (H : Hp) (C : Addr) (cl : List (Str × Addr)) (fp : List Addr), PG (X.blk s H scope (compEnvC scope cl C X.env) fp) tg (liftG X.K Ps ts g))
    (ht : ∀ (s : Shared) (H : Hp) (C : Addr) (cl : List (Str × Addr)) (fp : List Addr), PTs (X.blk s H scope (compEnvC scope cl C X.env) fp) ifs (liftT X.K Ps tt))
    (he : ∀ (s : Shared) (H : Hp) (C : Addr) (cl : List (Str × Addr)) (fp : List Addr), PE (X.blk s H scope (compEnvC scope cl C X.env) fp) elt (lift X.K Ps te))
    (hs : ∀ x, foldedSetIterable iter X.env x = pure x := by intro _; rfl) (hts : ∀ t ∈ ts, t ∈ own.map (·.2) := by decide) :
    PS X (.Assign [.Name y py] (.ListComp elt [⟨tg, iter, ifs, 0⟩] scope pos) spos) (liftS X.K Ps (dSet i (dL (dLc dit g tt te (own.map (·.2)))))) :=
  ps_weak (ps_setLc hc hN hy hyl hsw hi ok hg ht he hs) fun D σ H h => lift_lc hts (lift_new (lift_set h))
end
/-- a way that is not gone -/
def dRaise : DS := fun _ _ => False
theorem psd_raise {st : Stmt} : PS X st (liftS X.K Ps dRaise) := ⟨fun pins s σ H D I h => by
  obtain ⟨c, hs, as, σd, Dd, S, h, r⟩ := h
  exact h.elim⟩
end
end Dl
end
section
set_option Elab.async false
set_option linter.all false
set_option maxRecDepth 100000
set_option maxHeartbeats 1000000
namespace Dl
open PySem PySem.Spec PyProof.Rows L2 HbE Evl RZ
section
variable {K : PySem.W.Frag} {Ps : List Addr} {H : Hp} {hs as : List Addr} {c : C0}
theorem DpAll_rep {K : PySem.W.Frag} {H : Hp} {vs : List V} {ds : List PyData} (h : DpAll K H vs ds) : ∀ n : Nat, DpAll K H (List.replicate n vs).flatten (List.replicate n ds).flatten
  | 0 => .nil
  | n + 1 => by
    rw [List.replicate_succ, List.replicate_succ, List.flatten_cons, List.flatten_cons]
    exact h.app (DpAll_rep h n)
theorem fresh_off {σ : L2.St} {σd : Sd} {p : Addr} (S : Sts K Ps c hs as σ H σd) (hp : H p = none) : p ∉ hs ∧ p ∉ Ps := by
  refine ⟨fun z => ?_, fun z => ?_⟩
  · obtain ⟨⟨o, e, _⟩, _⟩ := S.fr.hat p z
    rw [hp] at e; cases e
  · obtain ⟨_, ps, e, _⟩ := S.fr.wf.tab p z
    rw [hp] at e; cases e
end
section
variable {X : Cx} {Ps : List Addr} {e a b c0 : PySem.Expr} {es : List PySem.Expr} {pos p p2 : Pos} {de : DE} {dl : DL}
/-- [..] * n -/
def dRep (dl : DL) (de : DE) : DL := fun σ Q => dl σ fun ds => de σ fun d => match d with
  | .int k => -1000000000 ≤ k ∧ k ≤ 1000000 ∧ ds.length * k.toNat ≤ 100000 ∧ Q (List.replicate k.toNat ds).flatten
  | _ => False
theorem pn_rep (ha : PE X a (liftN X.K Ps dl)) (hb : PE X b (lift X.K Ps de)) : PE X (.BinOp a .Mult b pos) (liftN X.K Ps (dRep dl de)) := pe_weak (pe_op op_rep ha hb) fun σ H Q ⟨c, hs, as, σd, Qd, S, hd, k⟩ =>
  ⟨c, hs, as, σd, _, S, hd, fun ds q vs H1 h1 s1 hq hq1 r1 => ⟨c, hs, as, σd, _, S.step s1, h1, fun d w H2 h2 s2 r2 => by
    split at h2
    · rename_i n
      cases r2
      obtain ⟨b1, b2, b3, h2⟩ := h2
      obtain ⟨n1, n2⟩ := fresh_off S hq
      have T := S.new (i := σd.length) s1 hq hq1 r1
      have e2 : DpAll X.K (msk (Mk c hs as) H2) vs ds := dpAll_mono (msk_less fun x m => by
        rcases m with m | m | m
        · exact .inl m
        · exact .inr (.inl m)
        · exact .inr (.inr (List.mem_cons_of_mem _ m))) (dpAll_mono (T.fr.wf.ex s2) r1)
      refine ⟨q, n, vs, rfl, rfl, s2.keep q _ hq1 n1 n2, by omega, by omega, sz_of (by rw [e2.len]; exact b3), fun l hl => ?_⟩
      have s12 := s1.trans s2
      exact k _ l _ _ h2 (s12.trans (Step.of_ex (Ex.new hl))) (none_of S.fr s12 hl) upd_same (own_new hl (DpAll_rep e2 n.toNat))
    · exact h2.elim⟩⟩
/-! ### slices -/
abbrev DO := Sd → (Option Int → Prop) → Prop
def liftO (K : PySem.W.Frag) (Ps : List Addr) (dO : DO) : TO := fun σ H Q => ∃ c hs as σd Qd, Sts K Ps c hs as σ H σd ∧ dO σd Qd ∧ ∀ o H', Qd o → Step hs Ps H H' → Q o H'
theorem po_weak {e : Option PySem.Expr} {t t' : TO} (h : PO X e t) (k : ∀ σ H Q, t' σ H Q → t σ H Q) : PO X e t' := ⟨fun pins s σ H Q I q => h.run pins s σ H Q I (k σ H Q q)⟩
def oNone : DO := fun _ Q => Q none
def oSome (de : DE) : DO := fun σ Q => de σ fun d => match d with
  | .int i => Q (some i)
  | _ => False
theorem pod_none : PO X none (liftO X.K Ps oNone) := po_weak po_none fun σ H Q ⟨c, hs, as, σd, Qd, S, hd, k⟩ => k none H hd Step.refl
theorem pod_some (h : PE X e (lift X.K Ps de)) : PO X (some e) (liftO X.K Ps (oSome de)) := po_weak (po_some h) fun σ H Q ⟨c, hs, as, σd, Qd, S, hd, k⟩ => ⟨c, hs, as, σd, _, S, hd, fun d v H' q s r => by
  split at q
  · cases r
    exact ⟨_, rfl, k _ H' q s⟩
  · exact q.elim⟩
def cutD (ds : List PyData) (lo hi : Option Int) : List PyData := (ds.drop (HT.sIx ds.length 0 lo)).take (HT.sIx ds.length ds.length hi - HT.sIx ds.length 0 lo)
theorem cut_dp {K : PySem.W.Frag} {H : Hp} {vs : List V} {ds : List PyData} (h : DpAll K H vs ds) (lo hi : Option Int) : DpAll K H (cutV vs lo hi) (cutD ds lo hi) := by
  unfold cutV cutD
  rw [h.len]
  exact (h.drop _).take _
def dSl (dq : DQ) (l h : DO) : DE := fun σ Q => dq σ fun b ds => l σ fun lo => h σ fun hi => Q (if b then .list (cutD ds lo hi) else .tuple (cutD ds lo hi))
theorem cut_whole {vs : List V} {lo hi : Option Int} (h : HT.sIx vs.length 0 lo = 0 ∧ HT.sIx vs.length vs.length hi = vs.length) : cutV vs lo hi = vs := by
  unfold cutV
  rw [h.1, h.2]
  simp
theorem pd_slice {dq : DQ} {dlo dhi : DO} {lo hi : Option PySem.Expr} (he : PE X e (liftQ X.K Ps dq)) (hl : PO X lo (liftO X.K Ps dlo)) (hu : PO X hi (liftO X.K Ps dhi)) : PE X (.Subscript e (.Slice lo hi none p2) pos) (lift X.K Ps (dSl dq dlo dhi)) :=
  pe_weak (pe_slice (SlR.or sl_list sl_tupA) he hl hu) fun σ H Q ⟨c, hs, as, σd, Qd, S, hd, k⟩ =>
    ⟨c, hs, as, σd, _, S, hd, fun b ds v H1 h1 s1 r1 => ⟨c, hs, as, σd, _, S.step s1, h1, fun o1 H2 h2 s2 => ⟨c, hs, as, σd, _, (S.step s1).step s2, h2, fun o2 H3 h3 s3 => by
      have s23 := s2.trans s3
      have r3 := r1.step (S.step s1).fr s23
      have T := (S.step s1).step s23
      have s13 := s1.trans s23
      obtain ⟨q, xs, rfl, h4, h5⟩ := r3.ex
      cases b with
      | true => exact .inl ⟨q, xs, rfl, h4, fun l hl => k _ _ _ h3 (s13.trans (Step.of_ex (Ex.new hl))) (dp_newL T.fr.wf hl (cut_dp h5 _ _))⟩
      | false =>
        refine .inr ⟨q, xs, rfl, h4, fun hw => ?_, fun hw l hl => k _ _ _ h3 (s13.trans (Step.of_ex (Ex.new hl))) (dp_newT T.fr.wf hl (cut_dp h5 _ _))⟩
        refine k _ _ H3 h3 s13 ?_
        have e1 := cut_whole (vs := xs) (lo := o1) (hi := o2) hw
        have e2 : cutD ds o1 o2 = ds := by
          have hw' : HT.sIx ds.length 0 o1 = 0 ∧ HT.sIx ds.length ds.length o2 = ds.length := by rw [← h5.len]; exact hw
          unfold cutD
          rw [hw'.1, hw'.2]
          simp
        simp only [Bool.false_eq_true, if_false]
        rw [e2]
        rcases r3 with r | ⟨z, _⟩
        · exact r
        · cases z⟩⟩⟩
/-! ### zip of two lists, of two tuples -/
theorem itd_zipL {K : PySem.W.Frag} {B : Hp} {p q : Addr} {xs ys : List V} {ds es : List PyData} (h1 : SqL K B p xs) (h2 : SqL K B q ys) (d1 : DpAll K B xs ds) (d2 : DpAll K B ys es) : ItD K Ps B (Itz K p q) (List.zipWith (fun x y => PyData.tuple [x, y]) ds es) := fun M hs H wf e => by
  have l1 := ex_l msk_ex (ex_l e h1)
  have l2 := ex_l msk_ex (ex_l e h2)
  refine ⟨fun i d hi => ?_, ?_⟩
  · rw [List.getElem?_zipWith] at hi
    cases qx : ds[i]? with
    | none => rw [qx] at hi; simp at hi
    | some x =>
      cases qy : es[i]? with
      | none => rw [qx, qy] at hi; simp at hi
      | some y =>
        rw [qx, qy] at hi
        cases hi
        obtain ⟨v, a1, a2⟩ := d1.get qx
        obtain ⟨w, b1, b2⟩ := d2.get qy
        refine ⟨⟨xs, ys, v, w, l1, l2, a1, b1⟩, fun z H' t => ?_⟩
        obtain ⟨T, x', y', rfl, nT, rfl, f1, f2⟩ := t
        have e1 := f1 xs l1
        have e2 := f2 ys l2
        rw [a1] at e1
        rw [b1] at e2
        cases e1
        cases e2
        exact ⟨Step.of_ex (Ex.new nT), dp_newT wf nT (.cons (dp_mono e a2) (.cons (dp_mono e b2) .nil))⟩
  · refine ⟨xs, ys, l1, l2, ?_⟩
    rw [d1.len, d2.len]
    rw [List.length_zipWith]
    omega
theorem itd_zipT {K : PySem.W.Frag} {B : Hp} {p q : Addr} {xs ys : List V} {ds es : List PyData} (h1 : SqT K B p xs) (h2 : SqT K B q ys) (d1 : DpAll K B xs ds) (d2 : DpAll K B ys es) : ItD K Ps B (ItzT K p q) (List.zipWith (fun x y => PyData.tuple [x, y]) ds es) := fun M hs H wf e => by
  have l1 := ex_t msk_ex (ex_t e h1)
  have l2 := ex_t msk_ex (ex_t e h2)
  refine ⟨fun i d hi => ?_, ?_⟩
  · rw [List.getElem?_zipWith] at hi
    cases qx : ds[i]? with
    | none => rw [qx] at hi; simp at hi
    | some x =>
      cases qy : es[i]? with
      | none => rw [qx, qy] at hi; simp at hi
      | some y =>
        rw [qx, qy] at hi
        cases hi
        obtain ⟨v, a1, a2⟩ := d1.get qx
        obtain ⟨w, b1, b2⟩ := d2.get qy
        refine ⟨⟨xs, ys, v, w, l1, l2, a1, b1⟩, fun z H' t => ?_⟩
        obtain ⟨T, x', y', rfl, nT, rfl, f1, f2⟩ := t
        have e1 := f1 xs l1
        have e2 := f2 ys l2
        rw [a1] at e1
        rw [b1] at e2
        cases e1
        cases e2
        exact ⟨Step.of_ex (Ex.new nT), dp_newT wf nT (.cons (dp_mono e a2) (.cons (dp_mono e b2) .nil))⟩
  · refine ⟨xs, ys, l1, l2, ?_⟩
    rw [d1.len, d2.len]
    rw [List.length_zipWith]
    omega
def dZip (da : DA) : DI := fun σ Q => da σ fun ws => match ws with
  | [.dat (.list ds), .dat (.list es)] => Q (List.zipWith (fun x y => PyData.tuple [x, y]) ds es)
  | [.dat (.tuple ds), .dat (.tuple es)] => Q (List.zipWith (fun x y => PyData.tuple [x, y]) ds es)
  | _ => False
theorem pid_zip {tpos : Pos} {elts : List PySem.Expr} {kk : Nat} {da : DA} (hg : Gl X "zip") (hm : X.mg "zip" = none) (ha : PA X [a, b] (liftA X.K Ps da)) (hs : starEach [a, b] X.env = (false, eval a X.env) :: starEach [b] X.env := by rfl) (hpl : (backTo pos (starEach [b] X.env)).any (·.1) = false := by rfl) :
    PI X (.Tuple elts kk tpos) (.Call (.Name "zip" p) [a, b] [] pos) (liftI X.K Ps (dZip da)) :=
  pi_weak (pi_zipA hg hm ha hs hpl) fun σ H R ⟨c, hs, as, σd, Qd, S, hd, k⟩ => ⟨c, hs, as, σd, _, S, hd, fun ws vs H1 h1 s1 r1 => by
    split at h1
    · cases r1 with
      | cons q1 q2 =>
        cases q2 with
        | cons q2 q3 =>
          cases q3
          cases q1 with
          | lst x1 x2 =>
            cases q2 with
            | lst y1 y2 => exact ⟨_, _, _, _, rfl, .inl ⟨ex_l msk_ex x1, ex_l msk_ex y1, k _ _ H1 h1 s1 (itd_zipL x1 y1 x2 y2)⟩⟩
    · cases r1 with
      | cons q1 q2 =>
        cases q2 with
        | cons q2 q3 =>
          cases q3
          cases q1 with
          | tup x1 x2 =>
            cases q2 with
            | tup y1 y2 => exact ⟨_, _, _, _, rfl, .inr ⟨ex_t msk_ex x1, ex_t msk_ex y1, k _ _ H1 h1 s1 (itd_zipT x1 y1 x2 y2)⟩⟩
    · exact h1.elim⟩
/-! ### enumerate of a list -/
theorem itd_enumL {K : PySem.W.Frag} {B : Hp} {p : Addr} {xs : List V} {ds : List PyData} (h1 : SqL K B p xs) (d1 : DpAll K B xs ds) : ItD K Ps B (Ite K p) (ds.mapIdx fun i x => PyData.tuple [.int (i : Nat), x]) := fun M hs H wf e => by
  have l1 := ex_l msk_ex (ex_l e h1)
  refine ⟨fun i d hi => ?_, ⟨xs, l1, by rw [d1.len]; simp⟩⟩
  rw [List.getElem?_mapIdx] at hi
  cases qx : ds[i]? with
  | none => rw [qx] at hi; simp at hi
  | some x =>
    rw [qx] at hi
    cases hi
    obtain ⟨v, a1, a2⟩ := d1.get qx
    refine ⟨⟨xs, v, l1, a1⟩, fun z H' t => ?_⟩
    obtain ⟨T, x', rfl, nT, rfl, f1⟩ := t
    have e1 := f1 xs l1
    rw [a1] at e1
    cases e1
    exact ⟨Step.of_ex (Ex.new nT), dp_newT wf nT (.cons (.int _) (.cons (dp_mono e a2) .nil))⟩
end
end Dl
end
section
set_option Elab.async false
set_option linter.all false
set_option maxRecDepth 100000
set_option maxHeartbeats 2000000
/-! enumerate of a tuple. -/
namespace PySem
open Sem (wp)
theorem hb_enum_meets {v : Value} {ob : Obj} {H : Heap → Prop} (B : Begins v ob H) :
    Meets (Builtin.«enumerate.__new__» ⟨[.type "enumerate", v], []⟩) (fun _ R s => H s.heap ∧ R (.ok (.ret (.ref (s.heap.push ob).objs.size)))
      { s with heap := (s.heap.push ob).push { cls := .type "enumerate", data := .fields #[.none, .bool false, .ref s.heap.objs.size, rawInt 0, .none, .none] } }) :=
  .of_wp fun prog w A R s hin => by
    obtain ⟨hp, g, d, tk, os⟩ := s
    obtain ⟨hH, hR⟩ := hin
    have hsub := sub_enumerate
    have step : ∀ {A' : Around} {E' : Value → Shared → Prop} {Q' : Value → Shared → Prop}, Q' (.ref hp.objs.size) ⟨hp.push ob, g, d, tk, os⟩ → wpAny (model prog w) A' (pyIter v) Q' E' ⟨hp, g, d, tk, os⟩ := fun q => B.iter prog w _ _ _ _ hH q
    wp_walk using step
    refine wpAny_stack_any fun stk => wpAny_pure ?_
    split
    · rename_i cc _ _ _ _ _
      cases (cc == Value.type "enumerate") <;> (wp_walk using step; exact ⟨_, rfl, hR⟩)
    · wp_walk using step
      exact ⟨_, rfl, hR⟩
theorem hb_enum {prog : Program} {w : World} {A : Around} {E : Value → Shared → Prop} {s : Shared} {v : Value} {ob : Obj} {H : Heap → Prop} {Q : Value → Shared → Prop} (B : Begins v ob H) (hH : H s.heap)
    (k : ∀ h', IsEnum h' (s.heap.objs.size + 1) s.heap.objs.size 0 .none → h'.get? s.heap.objs.size = some ob → (∀ b x, s.heap.get? b = some x → h'.get? b = some x) → Q (.ref (s.heap.objs.size + 1)) { s with heap := h' }) :
    wpAny (model prog w) A (call (.type "enumerate") [v]) Q E s := by
  refine callType_new F.called_enumerate (by decide) (F.typeCall_enumerate_1 _) (F.newCall_enumerate_1 _) (fun obj => F.args_object_init_2 obj _) F.entry_enumerate_new (hb_enum_meets B) ⟨hH, ?_⟩
  have z : (s.heap.push ob).objs.size = s.heap.objs.size + 1 := Heap.size_push ..
  show _ ∧ _
  rw [z]
  generalize hE : (s.heap.push ob).push { cls := .type "enumerate", data := .fields #[.none, .bool false, .ref s.heap.objs.size, rawInt 0, .none, .none] } = h2
  have isE : IsEnum h2 (s.heap.objs.size + 1) s.heap.objs.size 0 .none := by
    have q := Heap.get?_push_size (s.heap.push ob) (o := { cls := .type "enumerate", data := .fields #[.none, .bool false, .ref s.heap.objs.size, rawInt 0, .none, .none] }) rfl
    rw [z, hE] at q
    exact q
  refine ⟨⟨_, isE, rfl⟩, k _ isE ?_ fun b x q => ?_⟩
  · rw [← hE]; exact Heap.get?_push_of_some _ (Heap.get?_push_size _ B.free)
  · rw [← hE]; exact Heap.get?_push_of_some _ (Heap.get?_push_of_some _ q)
end PySem
namespace Dl
open PySem PySem.Spec PyProof.Rows L2 HbE Evl RZ
/-- the tuple at a, each item in a new pair -/
def IteT (K : PySem.W.Frag) (a : Addr) : It :=
  ⟨fun i H => ∃ (xs : List V) (x : V), SqT K H a xs ∧ xs[i]? = some x, fun i H v H' => ∃ T x, v = .ref T ∧ H T = none ∧ H' = upd H T (.tup [.int (i : Nat), x]) ∧ (∀ xs, SqT K H a xs → xs[i]? = some x), fun i H => ∃ xs : List V, SqT K H a xs ∧ xs.length = i⟩
theorem turn_enumT {P : Program} {w : World} {K : PySem.W.Frag} {elts : List PySem.Expr} {kk : Nat} {tpos : Pos} (a e it : Addr) (hai : a ≠ it) (hea : e ≠ a) :
    Turn P w K (.Tuple elts kk tpos) (IteT K a) [e, it] e (fun i h => (∃ old, IsEnum h e it ((i : Nat) : Int) old) ∧ h.IsTupleIter it a i ∧ e ≠ it) where
  mem := by simp
  obj := fun i h st b hb => by
    obtain ⟨⟨old, he⟩, ⟨o, ho, hc, hd⟩, _⟩ := st
    rcases List.mem_cons.mp hb with z | z
    · rw [z]; exact ⟨_, he, fun v q => by cases q⟩
    · rw [List.mem_singleton.mp z]; exact ⟨o, ho, fun v q => by rw [hd] at q; cases q⟩
  keep := fun i h h' st k => ⟨let ⟨old, he⟩ := st.1; ⟨old, k e (by simp) _ he⟩, st.2.1.at fun o q => k it (by simp) o q, st.2.2⟩
  item := by
    intro X hP hw hK hc i pins s σ H E I hf st hg
    subst hP hw hK
    obtain ⟨⟨old, he⟩, hit, hne⟩ := st
    obtain ⟨xs, x, hq, hx⟩ := hg
    obtain ⟨its, rv, pl, hz⟩ := I.tuple hq
    obtain ⟨u, hu, ru⟩ := rv.get hx
    have hel : e < s.heap.objs.size := Heap.lt_size he
    have hil : it < s.heap.objs.size := by obtain ⟨_, q, _⟩ := hit; exact Heap.lt_size q
    have hlt : i < its.toArray.size := by
      have := (List.getElem?_eq_some_iff.mp hu).1
      simpa using this
    refine wpAny_pyNext_enum_itemD (Draws.tuple (show X.A.in1.handled = none from I.ok.hd hc) it a hai its.toArray) he ⟨hit, pl⟩ hlt hne (by simp [hne, hea]) fun y h' tk py ho hst hT hsz hk => ?_
    have hyu : y = u := by
      have : its[i]? = some y := by simpa using py
      rw [hu] at this
      cases this
      rfl
    subst hyu
    refine ⟨_, rfl, wpAny_letOwnedTupleGo_enum (s := { s with heap := h', toks := tk + 1 }) ho fun h'' he' sb => ?_⟩
    have hT2 : h''.get? s.heap.objs.size = some { cls := .type "tuple", data := .seq #[.int i tk, y] } := (sb.2 _ (Nat.ne_of_gt hel)).trans hT
    have new : ObjOk X.prog X.w (upd H s.heap.objs.size (.tup [.int (i : Nat), x])) h'' s.heap.objs.size (.tup [.int (i : Nat), x]) :=
      ⟨by show 2 ≤ sizeLine; decide, [.int i tk, y], .cons ⟨_, rfl⟩ (.cons ru .nil), ⟨_, hT2, rfl, _, rfl⟩⟩
    have I1 : Inv X pins σ (upd H s.heap.objs.size (.tup [.int (i : Nat), x])) { s with heap := h'', toks := tk + 1 } :=
      I.turnedNew (ch := [e, it]) (fun b ob hb q => (sb.2 b (fun z => hb (by simp [z]))).trans (hk b ob (fun z => hb (by simp [z])) (fun z => hb (by simp [z])) q)) hf (Nat.le_refl _) new
    refine ⟨.ref s.heap.objs.size, _, I1, rfl, ⟨_, x, rfl, I.hok.fresh (Nat.le_refl _), rfl, fun ys hy => ?_⟩, ⟨⟨y, ?_⟩, hst.1.at fun o q => (sb.2 it (Ne.symm hne)).trans q, hne⟩, fun b hb => ?_⟩
    · rw [I.tuple_inj hy hq]; exact hx
    · have e1 : ((i + 1 : Nat) : Int) = (i : Int) + 1 := by omega
      rw [e1]; exact he'
    · have hb' : b < s.heap.objs.size := by
        rcases List.mem_cons.mp hb with z | z
        · rw [z]; exact hel
        · rw [List.mem_singleton.mp z]; exact hil
      rw [upd_ne (Nat.ne_of_lt hb')]
      exact (hf b hb).1
  done := by
    intro X hP hw hK hc i pins s σ H E I hf st hg
    subst hP hw hK
    obtain ⟨⟨old, he⟩, hit, hne⟩ := st
    obtain ⟨xs, hq, hx⟩ := hg
    obtain ⟨its, rv, pl, hz⟩ := I.tuple hq
    obtain ⟨f0, f1, f2, f3, f4, f5⟩ := hf it (by simp)
    have hl := rv.length
    have hn : i = its.toArray.size := by rw [List.size_toArray, ← hl, hx]
    subst hn
    exact wpAny_pyNext_enum_endD (Draws.tuple (show X.A.in1.handled = none from I.ok.hd hc) it a hai its.toArray) he ⟨hit, pl⟩ fun h' eb => ⟨rfl, I.turned (t' := s.toks) (fun b o hb q => eb b o hb q) f0 f1 f3 f4 f5⟩
  self := fun A i s Q E st h => let ⟨⟨_, he⟩, _⟩ := st; wpAny_pyIter_enum he h
def iEnumS (K : PySem.W.Frag) (ta : TA) : TI := fun σ H R => ta σ H fun vs H1 => ∃ a xs, vs = [.ref a] ∧ ((SqL K H1 a xs ∧ R (Ite K a) H1) ∨ (SqT K H1 a xs ∧ R (IteT K a) H1))
theorem pi_enumS {X : Cx} {e : PySem.Expr} {ta : TA} {p pos tpos : Pos} {elts : List PySem.Expr} {kk : Nat} (hg : Gl X "enumerate") (hm : X.mg "enumerate" = none) (ha : PA X [e] ta) (hs : starEach [e] X.env = [(false, eval e X.env)] := by rfl) :
    PI X (.Tuple elts kk tpos) (.Call (.Name "enumerate" p) [e] [] pos) (iEnumS X.K ta) := by
  refine ⟨fun pins s σ H R inv h => Call_ (ld_blt inv hg hm PyProof.Rows.boot_enumerate (PyProof.Rows.callWith_type1 (thn (ha.run pos pins s σ H _ inv h) fun us s1 ⟨vs, H1, inv1, rel, a, xs, ex, alt⟩ => ?_) hs rfl))⟩
  subst ex
  cases rel with
  | cons r rr =>
    cases rr
    cases r
    have fin : ∀ b ∈ [s1.heap.objs.size + 1, s1.heap.objs.size], FpOk X pins H1 b := fun b hb => by
      have hle : s1.heap.objs.size ≤ b := by
        rcases List.mem_cons.mp hb with z | z
        · rw [z]; exact Nat.le_add_right _ _
        · rw [List.mem_singleton.mp z]; exact Nat.le_refl _
      exact inv1.fpOk hle (inv1.hok.fresh hle)
    rcases alt with ⟨hq, q⟩ | ⟨hq, q⟩
    · obtain ⟨its, rv, pl, _⟩ := inv1.list hq
      refine call_enumerate_list pl.isList fun h' he hit _ hk => wpAny_pyIter_enum he ?_
      exact ⟨s1.heap.objs.size + 1, [s1.heap.objs.size + 1, s1.heap.objs.size], _, _, H1, rfl, inv1.kept (t' := s1.toks) hk, turn_enum a _ _, ⟨⟨.none, he⟩, hit, Nat.succ_ne_self _⟩, fin, q⟩
    · obtain ⟨its, rv, pl, _⟩ := inv1.tuple hq
      have al : a < s1.heap.objs.size := by obtain ⟨o, ho, _⟩ := pl; exact Heap.lt_size ho
      refine hb_enum (begins_tuple a its.toArray) pl fun h' he hob hk => wpAny_pyIter_enum he ?_
      exact ⟨s1.heap.objs.size + 1, [s1.heap.objs.size + 1, s1.heap.objs.size], _, _, H1, rfl, inv1.kept (t' := s1.toks) hk, turn_enumT a _ _ (Nat.ne_of_lt al) (Nat.ne_of_gt (Nat.lt_succ_of_lt al)), ⟨⟨.none, he⟩, ⟨_, hob, rfl, rfl⟩, Nat.succ_ne_self _⟩, fin, q⟩
section
variable {Ps : List Addr}
theorem itd_enumT {K : PySem.W.Frag} {B : Hp} {p : Addr} {xs : List V} {ds : List PyData} (h1 : SqT K B p xs) (d1 : DpAll K B xs ds) : ItD K Ps B (IteT K p) (ds.mapIdx fun i x => PyData.tuple [.int (i : Nat), x]) := fun M hs H wf e => by
  have l1 := ex_t msk_ex (ex_t e h1)
  refine ⟨fun i d hi => ?_, ⟨xs, l1, by rw [d1.len]; simp⟩⟩
  rw [List.getElem?_mapIdx] at hi
  cases qx : ds[i]? with
  | none => rw [qx] at hi; simp at hi
  | some x =>
    rw [qx] at hi
    cases hi
    obtain ⟨v, a1, a2⟩ := d1.get qx
    refine ⟨⟨xs, v, l1, a1⟩, fun z H' t => ?_⟩
    obtain ⟨T, x', rfl, nT, rfl, f1⟩ := t
    have e1 := f1 xs l1
    rw [a1] at e1
    cases e1
    exact ⟨Step.of_ex (Ex.new nT), dp_newT wf nT (.cons (.int _) (.cons (dp_mono e a2) .nil))⟩
def dEnum (da : DA) : DI := fun σ Q => da σ fun ws => match ws with
  | [.dat (.list ds)] => Q (ds.mapIdx fun i x => PyData.tuple [.int (i : Nat), x])
  | [.dat (.tuple ds)] => Q (ds.mapIdx fun i x => PyData.tuple [.int (i : Nat), x])
  | _ => False
theorem pid_enum {X : Cx} {a : PySem.Expr} {p pos tpos : Pos} {elts : List PySem.Expr} {kk : Nat} {da : DA} (hg : Gl X "enumerate") (hm : X.mg "enumerate" = none) (ha : PA X [a] (liftA X.K Ps da)) (hs : starEach [a] X.env = [(false, eval a X.env)] := by rfl) :
    PI X (.Tuple elts kk tpos) (.Call (.Name "enumerate" p) [a] [] pos) (liftI X.K Ps (dEnum da)) :=
  pi_weak (pi_enumS hg hm ha hs) fun σ H R ⟨c, hs, as, σd, Qd, S, hd, k⟩ => ⟨c, hs, as, σd, _, S, hd, fun ws vs H1 h1 s1 r1 => by
    split at h1
    · cases r1 with
      | cons q1 q2 =>
        cases q2
        cases q1 with
        | lst x1 x2 => exact ⟨_, _, rfl, .inl ⟨ex_l msk_ex x1, k _ _ H1 h1 s1 (itd_enumL x1 x2)⟩⟩
    · cases r1 with
      | cons q1 q2 =>
        cases q2
        cases q1 with
        | tup x1 x2 => exact ⟨_, _, rfl, .inr ⟨ex_t msk_ex x1, k _ _ H1 h1 s1 (itd_enumT x1 x2)⟩⟩
    · exact h1.elim⟩
end
end Dl
end
section
set_option Elab.async false
set_option linter.all false
set_option maxRecDepth 100000
set_option maxHeartbeats 1000000
namespace Dl
open PySem PySem.Spec PyProof.Rows L2 HbE Evl RZ
section
variable {K : PySem.W.Frag} {Ps : List Addr}
/-- (..) * n -/
def fRepT : PyData → PyData → (PyData → Prop) → Prop := fun x y Q => match x, y with
  | .tuple ds, .int k => ds ≠ [] ∧ 2 ≤ k ∧ k ≤ 1000 ∧ ds.length ≤ 1000 ∧ Q (.tuple (List.replicate k.toNat ds).flatten)
  | _, _ => False
theorem op2_repT : Op2 K Ps (rRepT K) fRepT := by
  intro M hs H v w x y Qd Q wf hx hy h k
  unfold fRepT at h
  split at h
  · obtain ⟨h1, h2, h3, h4, hq⟩ := h
    cases hy
    cases hx with
    | tup x1 x2 =>
      refine ⟨_, _, _, rfl, rfl, ex_t msk_ex x1, fun z => ?_, h2, h3, by rw [x2.len]; exact h4, fun p hp => k _ _ _ hq (Step.of_ex (Ex.new hp)) (dp_newT wf hp (DpAll_rep x2 _))⟩
      subst z
      cases x2
      exact h1 rfl
  · exact h.elim
end
/-! ### counts[i] += e -/
section
variable {X : Cx} {Ps : List Addr} {e o ix : PySem.Expr} {pos tpos : Pos} {de di : DE} {i : Nat}
def dAugIx (i : Nat) (di de : DE) : DS := fun D σ => match σ[i]? with
  | some (some (.own ds)) => di σ fun x => match x with
    | .int k => match ixN ds.length k with
      | some j => match ds[j]? with
        | some (.int n) => de σ fun d => match d with
          | .int m => D.nx (σ.set i (some (.own (ds.set j (.int (n + m))))))
          | _ => False
        | _ => False
      | none => False
    | _ => False
  | _ => False
/-- an item of an own list, by its place -/
def rGetO : V → V → Hp → VK → Prop := fun o i H Q => ∃ p k xs v, o = .ref p ∧ i = .int k ∧ H p = some (.lst xs) ∧ atI xs k = some v ∧ Q v H
theorem get_O : PGet X rGetO := by
  intro pins s σ H o i ov iv Q inv ro ri h
  obtain ⟨p, k, xs, z, rfl, rfl, hp, hz, q⟩ := h
  cases ro
  obtain ⟨t, rfl⟩ := ri
  obtain ⟨its, rel, pl, hsz⟩ := inv.list (sq_of (K := X.K) hp)
  obtain ⟨j, h1, h2, h3, h4, h5⟩ := atI_get hz
  obtain ⟨u, eu, ru⟩ := rel.get h2
  have hl := rel.length
  have hn := line63
  have fin : EP X pins σ Q u s := ⟨z, H, inv, ru, q⟩
  by_cases h0 : 0 ≤ k
  · have hj : k.toNat = j := by
      rw [seqIndex_of h0 h5] at h1
      exact Option.some.inj h1
    exact wpAny_getItem_list pl.isList h0 (by omega) (by rw [hj]; simpa using eu) fin
  · have hj : (k + (its.toArray.size : Int)).toNat = j := by
      have es : its.toArray.size = xs.length := by rw [List.size_toArray, hl]
      rw [seqIndex_neg (by omega) h4] at h1
      rw [es]
      exact Option.some.inj h1
    exact wpAny_getItem_list_neg pl.isList (by omega) (by rw [List.size_toArray] <;> omega) (by omega) (by rw [hj]; simpa using eu) fin
theorem lift_augIx {D : Ends} {σ : L2.St} {H : Hp} (h : liftS X.K Ps (dAugIx i di de) D σ H) : tAugS (tVar i) (lift X.K Ps di) (lift X.K Ps de) rGetO (ipI fun i j => i + j) rSetA D σ H := by
  obtain ⟨c, hs, as, σd, Dd, S, h, r⟩ := h
  unfold dAugIx at h
  split at h
  · rename_i ds q
    obtain ⟨v, h1, a, vs, rfl, ha, h2, h3⟩ := S.slot i _ q
    refine ⟨_, h1, c, hs, as, σd, _, S, h, fun x y H1 h4 s1 r1 => ?_⟩
    have T1 := S.step s1
    have e1 : H1 a = some (.lst vs) := s1.keep a _ h2 (S.fr.own a ha).2.2.1 (S.fr.own a ha).2.2.2
    have e3 := dpAll_mono (S.fr.wf.ex s1) h3
    split at h4
    · rename_i k
      cases r1
      split at h4
      · rename_i j qj
        split at h4
        · rename_i n qn
          obtain ⟨z, z1, z2⟩ := e3.get qn
          cases z2
          have at1 : atI vs k = some (.int n) := by
            unfold atI
            rw [h3.len, qj]
            exact z1
          refine ⟨a, k, vs, _, rfl, rfl, e1, at1, c, hs, as, σd, _, T1, h4, fun d w H2 h5 s2 r2 => ?_⟩
          split at h5
          · cases r2
            have T2 := T1.step s2
            have f1 := T1.fr
            have e4 : H2 a = some (.lst vs) := s2.keep a _ e1 (f1.own a ha).2.2.1 (f1.own a ha).2.2.2
            exact ⟨_, _, rfl, rfl, a, k, vs, j, rfl, rfl, e4, by rw [h3.len]; exact qj, r.nx hs as _ _ _ (T2.chg q h1 ((dpAll_mono (f1.wf.ex s2) e3).setAt (.int _))) h5⟩
          · exact h5.elim
        · exact h4.elim
      · exact h4.elim
    · exact h4.elim
  · exact h.elim
theorem psd_augIx (ho : PE X o (tVar i)) (hi : PE X ix (lift X.K Ps di)) (he : PE X e (lift X.K Ps de))
    (ha : ∀ ov iv new, augStore ix ov iv new = (do holding [new, ov, iv] (setItem ov iv new); release [new, ov, iv] []; pure .next) := by intros; rfl) :
    PS X (.AugAssign (.Subscript o ix tpos) .Add e pos) (liftS X.K Ps (dAugIx i di de)) := ps_weak (ps_augS ho hi get_O he ip_add set_A ha) fun _ _ _ => lift_augIx
end
end Dl
end
section
set_option Elab.async false
set_option linter.all false
set_option maxRecDepth 100000
set_option maxHeartbeats 2000000
/-! A generator expression's own context. -/
namespace Gx
open PySem PySem.Spec PyProof.Rows L2 GenW
/-- the context of a generator expression's body that begins at s, woken within B; its iterator's objects at fp, its own object in pn -/
abbrev gex (X : Cx) (s : Shared) (H : Hp) (cenv : Env) (B : Around) (fp : List Addr) (pn : List (Addr × Obj)) : Cx :=
  { X with A := B, s_0 := s, H_0 := H, env := cenv, outer := X.stack, stack := cenv :: X.stack, ex := fp, fn := fun _ => false, calm := true, pn := pn, xe := fun _ _ => False }
section
variable {X : Cx} {pins : List (Addr × Obj)} {σ : L2.St} {H : Hp} {s : Shared}
theorem inv_same {s' : Shared} (I : Inv X pins σ H s) (e1 : s'.heap = s.heap) (e2 : s'.os = s.os) (e3 : AllBare s'.gens) : Inv X pins σ H s' :=
  ⟨I.ok, e2.trans I.os, e3, by rw [e1]; exact I.base, by rw [e1]; exact I.loc, by rw [e1]; exact I.cell, I.free, I.freeC, by rw [e1]; exact I.pin, by rw [e1]; exact I.hok, I.len⟩
theorem gex_start {scope : Scope} {own : List (Str × Nat)} {fp : List Addr} {B : Around} {code : Value} {hh : Heap} {it : Value} {go : Obj} {G : Array GenState} {tk : Nat} {fr : Obj}
    (I : Inv X pins σ H s) (ok : BlkOk X.N X.env.scope scope own) (hN : X.N.Nodup) (nc : ∀ y ∈ scope.names, y.2 ≠ .cell) (hfp : ∀ b ∈ fp, FpOk X pins H b ∧ b < s.heap.objs.size)
    (hB : B.handled = none) (hBf : B.frames = some (genEnv scope (cloFrom X.env.cells scope.names []) s.heap.objs.size code builtinsNs X.env :: X.stack)) (hn : hh.Ns s.heap.objs.size (fun y => if y = ".0" then some it else none))
    (hs : Heap.SameBut s.heap.objs.size (s.heap.push fr) hh) (hG : AllBare G) (hgo : ∀ v, go.data ≠ .cell v) (hgf : go.isFreed = false) :
    Inv (gex X s H (genEnv scope (cloFrom X.env.cells scope.names []) s.heap.objs.size code builtinsNs X.env) B fp [(hh.objs.size, go)]) [] (wipe σ (own.map (·.2))) H { s with heap := hh.push go, gens := G, toks := tk } := by
  have sz : hh.objs.size = s.heap.objs.size + 1 := by rw [hs.1, Heap.size_push]
  have kp : ∀ b o, s.heap.get? b = some o → (hh.push go).get? b = some o := fun b o e => Heap.get?_push_of_some _ (hs.extBut b o (Nat.ne_of_lt (Heap.lt_size e)) (Heap.get?_push_of_some _ e))
  have clo : ∀ {y c}, (cloFrom X.env.cells scope.names []).lookup y = some c → scope.names.lookup y = some .free ∧ X.env.cells.lookup y = some c ∧ c < s.heap.objs.size := fun {y c} e => by
    rcases cloFrom_mem (PySem.mem_of_lookup e) with hm | ⟨h1, rfl⟩
    · cases hm
    · have hl := ok.uniq _ h1
      obtain ⟨c, hc⟩ : ∃ c, X.env.cells.lookup y = some c := by
        rcases ok.free _ h1 rfl with k | k
        · exact I.ok.has _ (.inl k)
        · exact I.ok.has _ (.inr k)
      rw [hc]
      obtain ⟨w, z⟩ := I.cell _ _ hc
      exact ⟨hl, rfl, z.lt⟩
  have has : ∀ {y}, scope.names.lookup y = some .free → ∃ c, (cloFrom X.env.cells scope.names []).lookup y = some c := fun {y} hl => mem_lookup (cloFrom_has (cells := X.env.cells) (acc := []) (PySem.mem_of_lookup hl))
  have okG : (gex X s H (genEnv scope (cloFrom X.env.cells scope.names []) s.heap.objs.size code builtinsNs X.env) B fp [(hh.objs.size, go)]).Ok := by
    refine ⟨I.ok.mod, ok.kind, I.ok.glob, rfl, Nat.le_refl _, fun y z c e1 e2 => I.ok.inj y z c (clo e1).2.1 (clo e2).2.1, fun y hy => ?_, fun y c z _ => (by cases z), fun _ => hB, hBf, .inr ⟨rfl, rfl⟩, fun b hb => ⟨Nat.ne_of_lt (hfp b hb).2, fun y c e z => ?_⟩,
      I.bs, Nat.le_trans I.ok.bsz I.sz, fun b o e hb => ?_, fun b hb z => ?_, I.stack, I.stkFree⟩
    · rcases hy with hy | hy
      · exact absurd rfl (nc _ (PySem.mem_of_lookup (show scope.names.lookup y = some .cell from hy)))
      · exact has hy
    · exact (hfp b hb).1.2.2.2.2.1 y c (clo e).2.1 z
    · rcases (hfp b hb).1.2.2.2.1 with z | z
      · exact I.ok.noex b o e z
      · exact absurd (Nat.lt_of_lt_of_le (Heap.lt_size e) (Nat.le_trans I.ok.bsz z)) (Nat.lt_irrefl _)
    · rcases List.mem_cons.mp (I.stkSub b z) with z | z
      · exact (hfp b hb).1.2.1 z
      · exact (hfp b hb).1.2.2.1 z
  refine ⟨okG, rfl, hG, Un.kept kp, ⟨_, hn.push _, fun i y av e1 e2 e3 => ?_⟩, fun y c e => ?_, I.hok.fresh (Nat.le_refl _), fun y c e => I.freeC y c (clo e).2.1, fun p hp => ?_, I.hok.kept kp, by rw [wipe_length]; exact I.len⟩
  · obtain ⟨e2, hne⟩ := wipe_some e2
    have no : ∀ k, scope.names.lookup y = some k → ¬ (k = .local ∨ k = .cell) := fun k hk q => by
      rcases ok.own _ (PySem.mem_of_lookup hk) q with e' | e'
      · obtain ⟨p, hp, hpy⟩ := List.mem_map.mp e'
        have e3 := ok.ix p hp
        rw [show p.1 = y from hpy] at e3
        exact hne (List.mem_map.mpr ⟨p, hp, nodup_ix hN e3 e1⟩)
      · exact e' (List.mem_of_getElem? e1)
    have fre : scope.names.lookup y = some .free := by
      rcases (show Vis scope y from e3) with e3 | e3 | e3
      · exact absurd (.inl rfl) (no _ e3)
      · exact absurd (.inr rfl) (no _ e3)
      · exact e3
    obtain ⟨m, hm, hl⟩ := I.loc
    have par := ok.free _ (PySem.mem_of_lookup fre) rfl
    obtain ⟨u, r, q⟩ := hl i y av e1 e2 (par.elim (fun k => .inr (.inl k)) fun k => .inr (.inr k))
    refine ⟨u, r, .inr ⟨.inr fre, ?_⟩⟩
    obtain ⟨c, hc⟩ := has fre
    refine ⟨c, hc, ?_⟩
    rcases q with ⟨k, _⟩ | ⟨_, c', e', z⟩
    · have k : X.env.scope.names.lookup y = some .local := k
      rcases par with k' | k' <;> rw [k'] at k <;> cases k
    · rw [(clo hc).2.1] at e'
      cases e'
      exact z.keeps kp
  · obtain ⟨w, z⟩ := I.cell y c (clo e).2.1
    exact ⟨w, z.keeps kp⟩
  · have hp : p ∈ [(hh.objs.size, go)] := by simpa using hp
    rw [List.mem_singleton.mp hp]
    refine ⟨Heap.get?_push_size _ hgf, I.hok.fresh (by rw [sz]; exact Nat.le_succ _), ?_, fun z => ?_, hgo⟩
    · show hh.objs.size ≠ s.heap.objs.size
      rw [sz]; exact Nat.succ_ne_self _
    · obtain ⟨_, o, ho, _⟩ := I.stack.mem (show hh.objs.size ∈ frs X.stack from z)
      have := Heap.lt_size ho
      rw [sz] at this
      exact absurd (Nat.lt_of_succ_lt this) (Nat.lt_irrefl _)
abbrev gLoop (elt tg iter : PySem.Expr) (ifs : List PySem.Expr) (scope : Scope) (pos : Pos) (it : Addr) (cenv : Env) : Code := .compLoop (.GeneratorExp elt [⟨tg, iter, ifs, 0⟩] scope pos) 0 (.ref it) .none cenv
/-- what holds of the state wherever the consumer has the turn: s₀, H₀ the entry -/
def Mid (X : Cx) (H₀ : Hp) (s₀ : Shared) (fp : List Addr) (H' : Hp) (s' : Shared) : Prop := s'.os = s₀.os ∧ AllBare s'.gens ∧ Un (frs X.stack) fp H₀ H' s₀.heap s'.heap ∧ HOk X.prog X.w H' s'.heap
/-- a test's result is handed out; at True the consumer comes back with nothing changed but the generators -/
def GxY (X : Cx) (H₀ : Hp) (s₀ : Shared) (fp : List Addr) (a : Addr) (g : Nat) (F : Hp → Prop) : Protocol := fun _ _ v s kap => ∃ b : Bool, v = .bool b ∧ s.heap.NoLimit ∧ s.heap.IsGen a g ∧ AllBare s.gens ∧
  (b = false → ∃ H', Mid X H₀ s₀ fp H' s ∧ F H') ∧ (b = true → ∀ s', s'.heap = s.heap → s'.os = s.os → AllBare s'.gens → kap (.send .none) s')
def GxR (X : Cx) (H₀ : Hp) (s₀ : Shared) (fp : List Addr) (T : Hp → Prop) : GenEnd := fun _ _ r s => ((r = .ok (.ret .none) ∨ r = .ok .next) ∧ ∃ H', Mid X H₀ s₀ fp H' s ∧ T H') ∨ ∃ e : Value, r = .error e ∧ False
end
section
variable {X : Cx} {elt tg iter : PySem.Expr} {ifs : List PySem.Expr} {scope : Scope} {pos : Pos} {cenv : Env} {B : Around} {fp : List Addr} {pn : List (Addr × Obj)} {s₀ : Shared} {H₀ : Hp} {it a : Addr} {g : Nat}
  {tn : Nat → Heap → Prop} {J : It} {gg : TG} {tt : TT} {te : TE} {vs : List Nat} {σ : L2.St} {TT' FF : Hp → Prop} {W : Nat → Nat → Hp → Prop}
theorem gx_loop (T : Turn X.prog X.w X.K tg J fp it tn) (hco : cenv.scope.isCoroutine = false)
    (pg : PG (gex X s₀ H₀ cenv (B.over (gLoop elt tg iter ifs scope pos it cenv) []) fp pn) tg gg)
    (pt : PTs (gex X s₀ H₀ cenv (B.over (gLoop elt tg iter ifs scope pos it cenv) []) fp pn) ifs tt)
    (pe : PE (gex X s₀ H₀ cenv (B.over (gLoop elt tg iter ifs scope pos it cenv) []) fp pn) elt te)
    (gen : ∀ h : Heap, (∀ p ∈ pn, h.get? p.1 = some p.2) → h.IsGen a g) (npn : ∀ b ∈ fp, ∀ p ∈ pn, p.1 ≠ b)
    (turn : ∀ i m H, W i m H → (J.stop i H ∧ TT' H) ∨ (J.go i H ∧ ∃ Nx : Hp → Prop, (∀ H', Nx H' → ∃ m', m' < m ∧ W (i + 1) m' H') ∧ ∀ x H', J.yld i H x H' → gg x (wipe σ vs) H' fun σ2 H2 => wipe σ2 vs = wipe σ vs ∧ tt σ2 H2 fun b H3 =>
      if b = true then te σ2 H3 fun y H4 => ∃ c, y = .bl c ∧ if c = true then Nx H4 else FF H4 else Nx H3)) :
    ∀ (m n i : Nat) (s₁ s : Shared) (H : Hp), m + 1 ≤ n → Inv (gex X s₀ H₀ cenv (B.over (gLoop elt tg iter ifs scope pos it cenv) []) fp pn) [] (wipe σ vs) H s → tn i s.heap → (∀ b ∈ fp, H b = none) → W i m H →
      Seg (model X.prog X.w) B (GxR X H₀ s₀ fp TT') (GxY X H₀ s₀ fp a g FF) n s₁ (gLoop elt tg iter ifs scope pos it cenv)
        ((model X.prog X.w).den (gLoop elt tg iter ifs scope pos it cenv)) [] s := by
  intro m
  induction m using Nat.strongRecOn with
  | ind m ih =>
    intro n i s₁ s H hmn I st nf w
    have stat : ∀ {σ' : L2.St} {H' : Hp} {s' : Shared}, Inv (gex X s₀ H₀ cenv (B.over (gLoop elt tg iter ifs scope pos it cenv) []) fp pn) [] σ' H' s' → (∀ b ∈ fp, H' b = none) → ∀ b ∈ fp, FpOk (gex X s₀ H₀ cenv (B.over (gLoop elt tg iter ifs scope pos it cenv) []) fp pn) [] H' b := fun {σ' H' s'} I' hn b hb =>
      ⟨hn b hb, (I'.ok.exf b hb).1, I'.ok.exfs b hb, .inl hb, fun x c e => (I'.ok.exf b hb).2 x c e, fun p hp => npn b hb p (by simpa using hp)⟩
    show Seg _ B _ _ _ s₁ _ ((compTurn (.GeneratorExp elt [⟨tg, iter, ifs, 0⟩] scope pos) 0 (.ref it) .none cenv).onRaise (leaving cenv)) [] s
    rw [compTurn_gen, Sem.onRaise_eq_wrap]
    refine seg_bind_wrap (wpAny_standAt ?_)
    rcases turn i m H w with ⟨stop, qq⟩ | ⟨go, Nx, hNx, step⟩
    · have td := T.done (gex X s₀ H₀ cenv (B.over (gLoop elt tg iter ifs scope pos it cenv) []) fp pn) rfl rfl rfl rfl i [] s _ H (fun _ _ => False) I (stat I nf) st stop
      refine seg_bind_wrap (thnF td fun r s6 ⟨hr, I6⟩ => ?_)
      subst hr
      exact seg_end (.ok .next) (.inl ⟨.inr rfl, H, ⟨I6.os, I6.bare, I6.base, I6.hok⟩, qq⟩)
    · have ti := T.item (gex X s₀ H₀ cenv (B.over (gLoop elt tg iter ifs scope pos it cenv) []) fp pn) rfl rfl rfl rfl i [] s _ H (fun _ _ => False) I (stat I nf) st go
      refine seg_bind_wrap (thnF ti fun r s6 ⟨u, hr, h6⟩ => ?_)
      subst hr
      refine seg_bind_wrap (thnF h6 fun _ s7 ⟨x, H7, I7, r7, y7, st7, n7⟩ => ?_)
      have I7' := I7.pinned (stat I7 n7) (T.obj _ _ st7)
      refine seg_bind_wrap (thnF (pg.run _ s7 _ H7 x u _ I7' r7 (step x H7 y7)) fun _ s8 ⟨σ8, H8, I8, hw8, q8⟩ => ?_)
      refine seg_bind_wrap (thnF (pt.run _ s8 σ8 H8 _ I8 q8) fun b s9 ⟨H9, I9, q9⟩ => ?_)
      -- the turn's end
      have fin : ∀ {s' : Shared} {H' : Hp}, Inv (gex X s₀ H₀ cenv (B.over (gLoop elt tg iter ifs scope pos it cenv) []) fp pn) ([] ++ pinsAt fp s7.heap) σ8 H' s' → Inv (gex X s₀ H₀ cenv (B.over (gLoop elt tg iter ifs scope pos it cenv) []) fp pn) [] (wipe σ vs) H' s' ∧ tn (i + 1) s'.heap ∧ ∀ b ∈ fp, H' b = none := fun {s' H'} I' => by
        have pin' : ∀ b ∈ fp, ∀ o, s7.heap.get? b = some o → s'.heap.get? b = some o ∧ H' b = none := fun b hb o e =>
          let z := I'.pin (b, o) (List.mem_append_right _ (List.mem_append_right _ (mem_pinsAt hb e)))
          ⟨z.1, z.2.1⟩
        have hl : (wipe σ vs).length = σ8.length := by rw [← hw8, wipe_length]
        refine ⟨(I'.unpinned (pins := [])).weak hl (fun j v e => ?_), T.keep _ _ _ st7 fun b hb o e => (pin' b hb o e).1, fun b hb => ?_⟩
        · rw [← hw8] at e
          exact (wipe_some e).1
        · obtain ⟨o, e, _⟩ := T.obj _ _ st7 b hb
          exact (pin' b hb o e).2
      cases b with
      | false =>
        simp only [Bool.false_eq_true, if_false] at q9 ⊢
        obtain ⟨I10, st10, n10⟩ := fin I9
        obtain ⟨m', hm, w'⟩ := hNx H9 q9
        exact seg_again rfl (ih m' hm n (i + 1) s₁ s9 H9 (by omega) I10 st10 n10 w')
      | true =>
        simp only [if_true] at q9 ⊢
        have hy : ∀ v, yieldOut cenv v = yieldValue v := fun v => by simp only [yieldOut, hco, Bool.false_eq_true, if_false]
        simp only [hy]
        rw [Sem.bind_eq_wrap', Sem.bind_eq_wrap', Sem.wrap_wrap, Sem.wrap_wrap]
        refine seg_wrap (thnF (pe.run _ s9 σ8 H9 _ I9 q9) fun z s10 ⟨yv, H10, I10, r10, c, ey, nx⟩ => ?_)
        subst ey
        obtain rfl : z = Value.bool c := r10
        obtain ⟨I11, st11, n11⟩ := fin I10
        obtain ⟨n', rfl⟩ : ∃ n', n = n' + 1 := ⟨n - 1, by omega⟩
        refine seg_at (seg_yield rfl rfl rfl ⟨c, rfl, I11.nolimit, gen _ fun p hp => (I11.pin p (by simpa using hp)).1, I11.bare, fun hc => ⟨H10, ⟨I11.os, I11.bare, I11.base, I11.hok⟩, ?_⟩, fun hc s' e1 e2 e3 => ?_⟩)
        · subst hc
          simpa using nx
        · subst hc
          simp only [if_true] at nx
          obtain ⟨m', hm, w'⟩ := hNx H10 nx
          exact seg_again rfl (ih m' hm n' (i + 1) s' s' H10 (by omega) (inv_same I11 e1 e2 e3) (by rw [e1]; exact st11) n11 w')
theorem gx_begin (T : Turn X.prog X.w X.K tg J fp it tn) {n : Nat} {s₁ s : Shared} (st : tn 0 s.heap)
    (loop : Seg (model X.prog X.w) B (GxR X H₀ s₀ fp TT') (GxY X H₀ s₀ fp a g FF) n s₁ (gLoop elt tg iter ifs scope pos it cenv) ((model X.prog X.w).den (gLoop elt tg iter ifs scope pos it cenv)) [] s) :
    Seg (model X.prog X.w) B (GxR X H₀ s₀ fp TT') (GxY X H₀ s₀ fp a g FF) n s₁ (.compStart (.GeneratorExp elt [⟨tg, iter, ifs, 0⟩] scope pos) 0 (.ref it) .none cenv)
      ((model X.prog X.w).den (.compStart (.GeneratorExp elt [⟨tg, iter, ifs, 0⟩] scope pos) 0 (.ref it) .none cenv)) [] s := by
  show Seg _ B _ _ _ s₁ _ ((compStart (.GeneratorExp elt [⟨tg, iter, ifs, 0⟩] scope pos) 0 (.ref it) .none cenv).onRaise (leaving cenv)) [] s
  unfold compStart
  rw [Sem.onRaise_eq_wrap]
  show Seg _ B _ _ _ s₁ _ ((ask >>= _).wrap _ _ _ _) [] s
  refine seg_bind_wrap (wpAny_askSetting ?_)
  split
  · exact seg_again rfl loop
  · first
      | exact seg_bind_wrap (wpAny_rule (seg_bind_wrap (wpAny_standAt (seg_bind_wrap (T.self _ 0 s _ _ st (seg_again rfl loop))))))
      | (refine seg_bind_wrap (wpAny_rule ?_); show Seg _ B _ _ _ s₁ _ ((standAt iter.pos >>= _).wrap _ _ _ _) [] s; exact seg_bind_wrap (wpAny_standAt (seg_bind_wrap (T.self _ 0 s _ _ st (seg_again rfl loop)))))
end
section
variable {X : Cx} {s₀ : Shared} {H₀ : Hp} {fp : List Addr} {a : Addr} {g : Nat} {TT' FF : Hp → Prop} {A : Around} {R : Result → Shared → Prop}
theorem all_drain (hh : A.handled = none) (hd : A.depth < recursionLimit) (hF : ∀ s' H', Mid X H₀ s₀ fp H' s' → FF H' → R (.ok (.ret (.bool false))) s') (hT : ∀ s' H', Mid X H₀ s₀ fp H' s' → TT' H' → R (.ok (.ret (.bool true))) s') :
    ∀ (n : Nat) (s : Shared), s.heap.IsGen a g → s.heap.NoLimit → (∃ gs, s.gens[g]? = some gs ∧ gs.Goes (model X.prog X.w) A.in1.in1 (GxR X H₀ s₀ fp TT') (GxY X H₀ s₀ fp a g FF) n (.send .none) (s.setGen g .running)) →
      codeAny (model X.prog X.w) A (.builtin "all.loop" ⟨[.ref a], []⟩) R s := by
  have goes : ∀ {gs : GenState} {B : Around} {n : Nat} {r : Resume} {s : Shared}, gs.Goes (model X.prog X.w) B (GxR X H₀ s₀ fp TT') (GxY X H₀ s₀ fp a g FF) n r s →
      gs.Goes (model X.prog X.w) B (fun n s₁ r s => ((r = .ok (.ret .none) ∨ r = .ok .next) ∧ (fun (_ : Nat) (_ s : Shared) => ∃ H', Mid X H₀ s₀ fp H' s ∧ TT' H') n s₁ s) ∨ ∃ e, r = .error e ∧ (fun (_ : Value) (_ : Shared) => False) e s) (GxY X H₀ s₀ fp a g FF) n r s := fun h => h
  intro n
  induction n with
  | zero =>
    intro s hg hl ⟨gs, hgs, hgo⟩
    refine codeAny_builtin F.entry_all_loop ?_
    rw [Around.under_plainId F.plain_all_loop _]
    show wpAny _ A.in1 (pyNext (.ref a) >>= _) _ _ s
    refine wpAny_bind (next_genG (A := A.in1) hh hl hd hg hgs (goes hgo) (fun v s₁ gs' hbare hv => ?_) (fun s₁ hp h' hk => ?_) fun e s₁ he => he.elim)
    · obtain ⟨b, rfl, hl1, hg1, hb1, hf, ht⟩ := hv
      refine wpAny_bind (wpAny_holding (wpAny_truthy_bool ?_))
      refine wpAny_bind (wpAny_letGo ?_)
      cases b with
      | true => exact False.elim (ht rfl s₁ rfl rfl hb1)
      | false =>
        simp only [Bool.false_eq_true, if_false]
        obtain ⟨H', hm, hq⟩ := hf rfl
        refine wpAny_bind (wpAny_rule (wpAny_pure (hF _ H' ⟨hm.1, allBare_setGen hb1 hbare, hm.2.2.1, hm.2.2.2⟩ hq)))
    · obtain ⟨H', hm, hq⟩ := hp
      refine wpAny_bind (wpAny_rule (wpAny_pure (hT _ H' ⟨hm.1, allBare_setGen hm.2.1 rfl, hm.2.2.1.trans (Un.kept hk), hm.2.2.2.kept hk⟩ hq)))
  | succ n ih =>
    intro s hg hl ⟨gs, hgs, hgo⟩
    have hgl : g < s.gens.size := (Array.getElem?_eq_some_iff.mp hgs).1
    refine codeAny_builtin F.entry_all_loop ?_
    rw [Around.under_plainId F.plain_all_loop _]
    show wpAny _ A.in1 (pyNext (.ref a) >>= _) _ _ s
    refine wpAny_bind (wpAny_gsz (n := g + 1) hgl (next_genG (A := A.in1) hh hl hd hg hgs (goes hgo) (fun v s₁ gs' hbare hv => ?_) (fun s₁ hp h' hk => ?_) fun e s₁ he => he.elim))
    · intro hsz
      obtain ⟨b, rfl, hl1, hg1, hb1, hf, ht⟩ := hv
      have hsz1 : g < s₁.gens.size := by
        have q : (s₁.setGen g gs').gens.size = s₁.gens.size := setGen_size _ _ _
        have hsz' : g + 1 ≤ (s₁.setGen g gs').gens.size := hsz
        omega
      refine wpAny_bind (wpAny_holding (wpAny_truthy_bool ?_))
      refine wpAny_bind (wpAny_letGo ?_)
      cases b with
      | true =>
        simp only [if_true]
        refine wpAny_pure ⟨plainId_quiet F.plain_all_loop _, ih (s₁.setGen g gs') hg1 hl1 ⟨gs', setGen_at hsz1, ?_⟩⟩
        exact ht rfl _ rfl rfl (allBare_setGen (s := s₁.setGen g gs') (allBare_setGen hb1 hbare) rfl)
      | false =>
        simp only [Bool.false_eq_true, if_false]
        obtain ⟨H', hm, hq⟩ := hf rfl
        refine wpAny_bind (wpAny_rule (wpAny_pure (hF _ H' ⟨hm.1, allBare_setGen hb1 hbare, hm.2.2.1, hm.2.2.2⟩ hq)))
    · intro hsz
      obtain ⟨H', hm, hq⟩ := hp
      refine wpAny_bind (wpAny_rule (wpAny_pure (hT _ H' ⟨hm.1, allBare_setGen hm.2.1 rfl, hm.2.2.1.trans (Un.kept hk), hm.2.2.2.kept hk⟩ hq)))
end
end Gx
end
section
set_option Elab.async false
set_option linter.all false
set_option maxRecDepth 100000
set_option maxHeartbeats 4000000
/-! all(test for .. in .. if ..), the test any expression. -/
namespace Gx
open PySem PySem.Spec PyProof.Rows L2 GenW GxR
section
variable {X : Cx} {elt tg iter : PySem.Expr} {ifs : List PySem.Expr} {scope : Scope} {gpos : Pos} {gg : TG} {tt : TT} {te : TE} {wi : TI} {own : List (Str × Nat)} {c P : Addr} {k : Nat}
/-- one turn after the other: T what the end wants, F what a False wants -/
def TurnG (gg : TG) (tt : TT) (te : TE) (vs : List Nat) (σ : L2.St) (J : It) (W : Nat → Nat → Hp → Prop) (T F : Hp → Prop) : Prop := ∀ i m H, W i m H → (J.stop i H ∧ T H) ∨ (J.go i H ∧ ∃ Nx : Hp → Prop, (∀ H', Nx H' → ∃ m', m' < m ∧ W (i + 1) m' H') ∧
  ∀ x H', J.yld i H x H' → gg x (wipe σ vs) H' fun σ2 H2 => wipe σ2 vs = wipe σ vs ∧ tt σ2 H2 fun b H3 => if b = true then te σ2 H3 fun y H4 => ∃ c, y = .bl c ∧ if c = true then Nx H4 else F H4 else Nx H3)
def tAllG (P : Addr) (wi : TI) (gg : TG) (tt : TT) (te : TE) (vs : List Nat) : TE := fun σ H Q => wi σ H fun J H1 => TabG H1 P ∧ ∀ H2, Tabbed P H1 H2 → ∃ W : Nat → Nat → Hp → Prop, (∃ m, W 0 m H2) ∧ TurnG gg tt te vs σ J W (fun H => Q (.bl true) H) fun H => Q (.bl false) H
abbrev gEnv (X : Cx) (scope : Scope) (C : Addr) (code : Value) : Env := genEnv scope (cloFrom X.env.cells scope.names []) C code builtinsNs X.env
/-- a generator that has not begun -/
def GMd (X : Cx) (k : Nat) (pins : List (Addr × Obj)) (σ : L2.St) (T F : Hp → Prop) (u : Value) (s5 : Shared) : Prop := ∃ (a : Addr) (g : Nat) (c0 : Code) (s4 : Shared) (H2 : Hp) (fp : List Addr), u = .ref a ∧ Inv X pins σ H2 s4 ∧ (∀ b ∈ fp, FpOk X pins H2 b) ∧ s5.heap.IsGen a g ∧ s5.heap.NoLimit ∧
      AllBare s5.gens ∧ s5.gens[g]? = some (.fresh c0) ∧ ∃ n, ∀ (B : Around) (s6 : Shared), Room (k + 1) B → B.frames = some X.stack → s6.heap = s5.heap → s6.os = s5.os → AllBare s6.gens →
        Seg (model X.prog X.w) B (GxR X H2 s4 fp T) (GxY X H2 s4 fp a g F) n s6 c0 ((model X.prog X.w).den c0) [] s6
theorem room_gen {B : Around} {cenv : Env} {it : Addr} {pos : Pos} (hr : Room (k + 1) B) : Room k (B.over (gLoop elt tg iter ifs scope pos it cenv) []) :=
  ⟨hr.hd, by have := hr.dp; show B.depth + 0 + 1 + 3 * k + 5 < _; omega, by have := hr.un; show B.units + 0 + 3 + 16 * k + 200 < _; omega⟩
theorem frames_gen {B : Around} {cenv : Env} {it : Addr} {pos : Pos} {l : List Env} (h : B.frames = some l) : (B.over (gLoop elt tg iter ifs scope pos it cenv) []).frames = some (cenv :: l) := by
  simp only [Around.over]
  rw [h]
  rfl
theorem gx_make {pins : List (Addr × Obj)} {σ : L2.St} {H : Hp} {s : Shared} {T F : Hp → Prop} (hhd : X.A.handled = none) (hdp : X.A.depth < recursionLimit) (TB : TabB X.base X.mg c P) (hcode : X.env.code = .ref c) (hN : X.N.Nodup) (hco : scope.isCoroutine = false)
    (nc : ∀ y ∈ scope.names, y.2 ≠ .cell) (h0 : scope.names.lookup (".0" : Str) = some NameKind.local) (ok : BlkOk X.N X.env.scope scope own) (hi : PI X tg iter wi)
    (hg : ∀ (s : Shared) (H : Hp) (C : Addr) (code : Value) (B : Around) (fp : List Addr) (pn : List (Addr × Obj)), Room k B → PG (gex X s H (gEnv X scope C code) B fp pn) tg gg)
    (ht : ∀ (s : Shared) (H : Hp) (C : Addr) (code : Value) (B : Around) (fp : List Addr) (pn : List (Addr × Obj)), Room k B → PTs (gex X s H (gEnv X scope C code) B fp pn) ifs tt)
    (he : ∀ (s : Shared) (H : Hp) (C : Addr) (code : Value) (B : Around) (fp : List Addr) (pn : List (Addr × Obj)), Room k B → PE (gex X s H (gEnv X scope C code) B fp pn) elt te)
    (hs : ∀ v, genFold iter X.env v = pure v) (I : Inv X pins σ H s)
    (h : wi σ H fun J H1 => TabG H1 P ∧ ∀ H2, Tabbed P H1 H2 → ∃ W : Nat → Nat → Hp → Prop, (∃ m, W 0 m H2) ∧ TurnG gg tt te (own.map (·.2)) σ J W T F) :
    wpAny (model X.prog X.w) X.A (eval (.GeneratorExp elt [⟨tg, iter, ifs, 0⟩] scope gpos) X.env) (GMd X k pins σ T F) X.xe s := by
  have hclos : closureFor scope X.env = pure (cloFrom X.env.cells scope.names []) := closure_ok fun y hy e => by
    rcases ok.free y hy e with q | q
    · exact I.ok.has _ (.inl q)
    · exact I.ok.has _ (.inr q)
  refine wpAny_GeneratorExp_make hco hclos nc h0 ok.kind hdp ?_ hs
  refine thn (hi.run pins s σ H _ I h) fun xv s1 h1 => thn h1 fun itv s2 ⟨it, fp, tn, J, H1, eit, I1, T1, st1, f1, ⟨ps, hP, htr⟩, q1⟩ => ?_
  subst eit
  have hPs : s2.heap.get? P = some { cls := .none, data := .fields ps } := I1.hok P _ hP
  have cd : PySem.W.CodeHd s2.heap c P := TB.code.keeps fun b u e => I1.bk b u e
  refine ⟨I1.nolimit, ?_⟩
  have hcP : cStatics ≠ P := fun e => by
    obtain ⟨_, hns, _⟩ := I1.nolimit
    obtain ⟨o', es, ep, ho, hd, _⟩ := hns
    rw [e, hPs] at ho
    cases ho
    cases hd
  have cont : ∀ (code : Value) (h3 : Heap) (tk : Nat) (more : Array Value), Heap.ExtBut P s2.heap h3 → h3.get? P = some { cls := .none, data := .fields (ps ++ more) } → TriplesOk (ps ++ more).toList →
      wpAny (model X.prog X.w) X.A (builtinsFor X.env.globals X.env.builtins) (fun bi s₄ => ∀ h', h'.Ns s₄.heap.objs.size (fun y => if y = ".0" then some (.ref it) else none) → Heap.SameBut s₄.heap.objs.size (s₄.heap.push { cls := .type "frame", data := .dict #[] }) h' →
        GMd X k pins σ T F (.ref h'.objs.size) { s₄ with
            gens := s₄.gens.push (.fresh (.compStart (.GeneratorExp elt [⟨tg, iter, ifs, 0⟩] scope gpos) 0 (.ref it) .none (genEnv scope (cloFrom X.env.cells scope.names []) s₄.heap.objs.size code bi X.env))),
            toks := s₄.toks + 1 + 1 + 1,
            heap := h'.push { cls := .type "generator", data := .fields #[.int s₄.gens.size 0, .str "<genexpr>" (s₄.toks + 1), .str (X.env.qual ++ "<genexpr>") (s₄.toks + 1 + 1)] } }) X.xe { s2 with heap := h3, toks := tk } := by
    intro code h3 tk more hx hP3 ht3
    obtain ⟨bm, ob, e1, e2, e3, e4, e5, e6, e7, e8⟩ := TB.bm
    have keep3 : ∀ b u, b ≠ P → s2.heap.get? b = some u → h3.get? b = some u := fun b u hb e => hx b u hb e
    have I3 : Inv X pins σ (upd H1 P (.tbl (ps ++ more))) { s2 with heap := h3, toks := tk } := inv_tab (g' := s2.gens) (d' := s2.drawn) I1 hP keep3 hP3 I1.bare
    refine wpAny_builtinsFor (m := X.mg) (by rw [I1.ok.glob]; exact (I1.mod.glob.keeps I1.bk).extBut hx TB.gP) e1 e2 (keep3 _ _ e4 (I1.bk _ _ e5)) e6 e7 e8 ?_
    intro h' hn' hs'
    obtain ⟨W, ⟨m0, w0⟩, turn⟩ := q1 (upd H1 P (.tbl (ps ++ more))) ⟨⟨ps ++ more, upd_same, ht3⟩, fun b hb => upd_ne hb⟩
    have nP : ∀ b, H1 b = none → b ≠ P := fun b e z => by rw [z, hP] at e; cases e
    have sz : ∀ b ∈ fp, b < s2.heap.objs.size := fun b hb => by
      obtain ⟨o, e, _⟩ := T1.obj _ _ st1 b hb
      exact Heap.lt_size e
    have st3 : tn 0 h3 := T1.keep _ _ _ st1 fun b hb o e => keep3 b o (nP b (f1 b hb).1) e
    have f3 : ∀ b ∈ fp, FpOk X pins (upd H1 P (.tbl (ps ++ more))) b := fun b hb => ⟨by rw [upd_ne (nP b (f1 b hb).1)]; exact (f1 b hb).1, (f1 b hb).2⟩
    have lt3 : ∀ b ∈ fp, b < h3.objs.size := fun b hb => by
      obtain ⟨o, e, _⟩ := T1.obj _ _ st3 b hb
      exact Heap.lt_size e
    have hsz : h'.objs.size = h3.objs.size + 1 := by rw [hs'.1, Heap.size_push]
    have keep' : ∀ b o, h3.get? b = some o → h'.get? b = some o := fun b o e => hs'.extBut b o (Nat.ne_of_lt (Heap.lt_size e)) (Heap.get?_push_of_some _ e)
    have bare5 : AllBare (s2.gens.push (.fresh (.compStart (.GeneratorExp elt [⟨tg, iter, ifs, 0⟩] scope gpos) 0 (.ref it) .none (gEnv X scope h3.objs.size code)))) := AllBare.push I1.bare rfl
    refine ⟨h'.objs.size, s2.gens.size, _, { s2 with heap := h3, toks := tk }, upd H1 P (.tbl (ps ++ more)), fp, rfl, I3, f3, ⟨_, _, _, Heap.get?_push_size _ rfl, rfl, rfl, rfl⟩, I3.nolimit.keeps fun b o e => Heap.get?_push_of_some _ (keep' b o e), bare5, Array.getElem?_push_size .., m0 + 1, ?_⟩
    intro B s6 hB hBf eh eo eb
    have st6 : tn 0 s6.heap := T1.keep _ _ _ st3 fun b hb o e => by rw [eh]; exact Heap.get?_push_of_some _ (keep' b o e)
    refine gx_begin T1 st6 ?_
    refine gx_loop (X := X) (σ := σ) (vs := List.map (fun x : Str × Nat => x.2) own) (W := W) (J := J) (TT' := T) (FF := F) (gg := gg) (tt := tt) (te := te) T1 hco (hg _ _ _ _ _ _ _ (room_gen hB)) (ht _ _ _ _ _ _ _ (room_gen hB)) (he _ _ _ _ _ _ _ (room_gen hB)) (pn := [(h'.objs.size, { cls := .type "generator", data := .fields #[.int s2.gens.size 0, .str "<genexpr>" (tk + 1), .str (X.env.qual ++ "<genexpr>") (tk + 1 + 1)] })])
      (fun hh hp => ⟨_, _, _, hp _ (List.mem_singleton.mpr rfl), rfl, rfl, rfl⟩) (fun b hb p hp => ?_) turn m0 (m0 + 1) 0 s6 s6 _ (Nat.le_refl _) ?_ st6 (fun b hb => (f3 b hb).1) w0
    · rw [List.mem_singleton.mp hp]
      have := lt3 b hb
      show h'.objs.size ≠ b
      rw [hsz]
      exact Nat.ne_of_gt (Nat.lt_succ_of_lt this)
    · have Z := gex_start (fp := fp) (B := B.over (gLoop elt tg iter ifs scope gpos it (gEnv X scope h3.objs.size code)) []) (code := code) (it := .ref it) (go := { cls := .type "generator", data := .fields #[.int s2.gens.size 0, .str "<genexpr>" (tk + 1), .str (X.env.qual ++ "<genexpr>") (tk + 1 + 1)] }) (G := s6.gens) (tk := s6.toks)
        I3 ok hN nc (fun b hb => ⟨f3 b hb, lt3 b hb⟩) hB.hd (frames_gen hBf) hn' hs' eb (fun v q => by cases q) rfl
      exact inv_same Z (by rw [eh]) eo eb
  cases hf : codeAmong gpos ps.toList with
  | none =>
    refine wpAny_genexprCodeX hcode (cd.code hPs htr) (cd.tab hPs) hf fun c' h' tk hx hge hlt hco' _ htab' _ => ?_
    obtain ⟨o1, vs1, f1', tf, fl, tg', inF, tx, tt', op, _, _, _, _, _, _, _, _, _, htr', _⟩ := hco'
    exact cont _ h' tk _ hx htab'.2 htr'
  | some cv =>
    refine wpAny_genexprCode_hit hcode (cd.code hPs htr) hf ?_
    exact cont cv s2.heap s2.toks #[] (Heap.ExtBut.refl _ _) (by rw [Array.append_empty]; exact hPs) (by rw [Array.append_empty]; exact htr)
theorem pe_allG {p pos : Pos} (hr : Room (k + 2) X.A) (hgl : Gl X "all") (hm : X.mg "all" = none) (hb : bootBuiltins "all" = some (.builtin "all")) (TB : TabB X.base X.mg c P) (hcode : X.env.code = .ref c) (hN : X.N.Nodup) (hco : scope.isCoroutine = false)
    (nc : ∀ y ∈ scope.names, y.2 ≠ .cell) (h0 : scope.names.lookup (".0" : Str) = some NameKind.local) (ok : BlkOk X.N X.env.scope scope own) (hi : PI X tg iter wi)
    (hg : ∀ (s : Shared) (H : Hp) (C : Addr) (code : Value) (B : Around) (fp : List Addr) (pn : List (Addr × Obj)), Room k B → PG (gex X s H (gEnv X scope C code) B fp pn) tg gg)
    (ht : ∀ (s : Shared) (H : Hp) (C : Addr) (code : Value) (B : Around) (fp : List Addr) (pn : List (Addr × Obj)), Room k B → PTs (gex X s H (gEnv X scope C code) B fp pn) ifs tt)
    (he : ∀ (s : Shared) (H : Hp) (C : Addr) (code : Value) (B : Around) (fp : List Addr) (pn : List (Addr × Obj)), Room k B → PE (gex X s H (gEnv X scope C code) B fp pn) elt te)
    (hs : ∀ v, genFold iter X.env v = pure v)
    (hst : starEach [.GeneratorExp elt [⟨tg, iter, ifs, 0⟩] scope gpos] X.env = (false, eval (.GeneratorExp elt [⟨tg, iter, ifs, 0⟩] scope gpos) X.env) :: starEach [] X.env := by rfl) :
    PE X (.Call (.Name "all" p) [.GeneratorExp elt [⟨tg, iter, ifs, 0⟩] scope gpos] [] pos) (tAllG P wi gg tt te (own.map (·.2))) := by
  refine ⟨fun pins s σ H Q I h => ?_⟩
  refine wpAny_Call_Name_kw (ld_blt I hgl hm hb ?_)
  refine PyProof.Rows.callWith_builtin1 ?_ hst (by rfl)
  rw [hst]
  show wpAny _ _ (spliced ((false, eval (.GeneratorExp elt [⟨tg, iter, ifs, 0⟩] scope gpos) X.env) :: backTo pos (starEach [] X.env))) _ _ s
  refine Calls.spliced_cons (thn (gx_make hr.hd (by have := hr.dp; omega) TB hcode hN hco nc h0 ok hi hg ht he hs I h) fun u s5 ⟨a, g, c0, s4, H2, fp, eu, I4, f4, isg, nl, bare, hgs, n, wake⟩ => ?_)
  subst eu
  refine Calls.spliced_nil ?_
  refine call_function_tree F.kind_all F.plain_all F.entry_all (F.args_all1 _) ?_
  unfold Builtin.«all»
  refine wpAny_bind (m := oneArg "all" _) (wpAny_pure ?_)
  refine wpAny_bind (wpAny_pyIter_gen isg ?_)
  have back : ∀ s' H', Mid X H2 s4 fp H' s' → Inv X pins σ H' s' := fun s' H' m => I4.call' (ch := fp) m.1 m.2.2.1 m.2.2.2 m.2.1 fun b hb => ⟨(f4 b hb).2.2.2.1, (f4 b hb).2.1, (f4 b hb).2.2.2.2.1, (f4 b hb).2.2.2.2.2⟩
  refine wpAny_pure ⟨plainId_quiet F.plain_all_loop _, all_drain (X := X) (s₀ := s4) (H₀ := H2) (fp := fp) (a := a) (g := g) (TT' := fun H => Q (.bl true) H) (FF := fun H => Q (.bl false) H) hr.hd (by have := hr.dp; omega)
    (fun s' H' m q => ⟨.bl false, H', back s' H' m, rfl, q⟩) (fun s' H' m q => ⟨.bl true, H', back s' H' m, rfl, q⟩) n s5 isg nl ⟨_, hgs, rfl, ?_⟩⟩
  refine wake _ _ ⟨hr.hd, ?_, ?_⟩ I.ok.frames rfl rfl (allBare_setGen bare rfl)
  · have := hr.dp
    show X.A.depth + 3 * (k + 1) + 5 < _
    omega
  · have := hr.un
    show X.A.units + 1 + 1 + 16 * (k + 1) + 200 < _
    omega
end
end Gx
end
section
set_option Elab.async false
set_option linter.all false
set_option maxRecDepth 100000
set_option maxHeartbeats 1000000
namespace Dl
open PySem PySem.Spec PyProof.Rows L2 HbE Evl RZ Gx
/-! ### all(test for x in xs if ..) -/
def allD (g : DG) (tt : DT) (te : DE) (σ0 : Sd) (Q : Bool → Prop) : List PyData → Prop
  | [] => Q true
  | d :: ds => g d σ0 fun σ2 => tt σ2 fun b => if b = true then te σ2 fun y => match y with
      | .bool c => if c = true then allD g tt te σ0 Q ds else Q false
      | _ => False
    else allD g tt te σ0 Q ds
def dAll (di : DI) (g : DG) (tt : DT) (te : DE) (vs : List Nat) : DE := fun σ Q => di σ fun ds => allD g tt te (wipeD σ vs) (fun b => Q (.bool b)) ds
theorem step_tab {Ps hs : List Addr} {P : Addr} {H H2 : Hp} {M : Addr → Prop} (w : Wf Ps M hs H) (hP : P ∈ Ps) (h : GxR.Tabbed P H H2) : Step hs Ps H H2 := by
  obtain ⟨_, ps, e, _⟩ := w.tab P hP
  refine ⟨fun a o q _ n => by rw [h.2 a fun z => n (z ▸ hP)]; exact q, fun p hp q => ?_, fun P' hP' q => ?_⟩
  · obtain ⟨o, q1, q2⟩ := q
    refine ⟨o, ?_, q2⟩
    rw [h.2 p fun z => ?_]
    · exact q1
    · rw [z, e] at q1
      cases q1
      obtain ⟨_, _, _, q3⟩ := q2
      cases q3
  · by_cases z : P' = P
    · rw [z]; exact h.1
    · obtain ⟨ps', q1, q2⟩ := q
      exact ⟨ps', by rw [h.2 P' z]; exact q1, q2⟩
theorem lift_all {K : PySem.W.Frag} {Ps : List Addr} {P : Addr} {di : DI} {g : DG} {tt : DT} {te : DE} {ts vs : List Nat} {σ : L2.St} {H : Hp} {Q : VK} (hP : P ∈ Ps) (hts : ∀ t ∈ ts, t ∈ vs) (h : lift K Ps (dAll di g tt te vs) σ H Q) :
    tAllG P (liftI K Ps di) (liftG K Ps ts g) (liftT K Ps tt) (lift K Ps te) vs σ H Q := by
  obtain ⟨c, hs, as, σd, Qd, S, h, k⟩ := h
  refine ⟨c, hs, as, σd, _, S, h, fun ds J H1 h1 s1 it => ⟨((S.step s1).fr.wf.tab P hP).2, fun H2 ht2 => ?_⟩⟩
  have T := S.step s1
  have s12 := step_tab T.fr.wf hP ht2
  refine ⟨fun i m H' => i + m = ds.length ∧ Step hs Ps H1 H' ∧ allD g tt te (wipeD σd vs) (fun b => Qd (.bool b)) (ds.drop i), ⟨ds.length, by omega, s12, h1⟩, ?_⟩
  rintro i m H' ⟨em, s3, hl⟩
  have U := (T.step s3).wipe vs
  obtain ⟨hgo, hst⟩ := it _ _ _ U.fr.wf (T.fr.wf.ex s3)
  by_cases hi : i < ds.length
  · rw [List.drop_eq_getElem_cons hi] at hl
    obtain ⟨g1, g2⟩ := hgo i ds[i] (List.getElem?_eq_getElem hi)
    refine .inr ⟨g1, fun H4 => Step hs Ps H1 H4 ∧ allD g tt te (wipeD σd vs) (fun b => Qd (.bool b)) (ds.drop (i + 1)), fun H4 ⟨q1, q2⟩ => ⟨m - 1, by omega, by omega, q1, q2⟩, fun x H4 y => ?_⟩
    obtain ⟨s4, rx⟩ := g2 x H4 y
    refine ⟨c, hs, as, _, ds[i], _, U.step s4, rx, hl, fun σ3 σd3 T3 w3 q3 => ⟨?_, c, hs, as, σd3, _, T3, q3, fun b H5 hb s5 => ?_⟩⟩
    · have a := wipe_more (us := vs) w3 hts
      have b : wipe (wipe σ vs) vs = wipe σ vs := wipe_ext (by rw [wipe_length]) fun j hj => wipe_out hj
      rw [a]
      exact b
    · have s15 := s3.trans (s4.trans s5)
      cases b with
      | true =>
        rw [if_pos rfl] at hb
        dsimp only
        rw [if_pos rfl]
        refine ⟨c, hs, as, σd3, _, T3.step s5, hb, fun d z H6 h6 s6 r6 => ?_⟩
        split at h6
        · rename_i cc
          cases r6
          refine ⟨cc, rfl, ?_⟩
          cases cc with
          | true =>
            rw [if_pos rfl] at h6 ⊢
            exact ⟨s15.trans s6, h6⟩
          | false =>
            rw [if_neg (by simp)] at h6 ⊢
            exact k _ _ H6 h6 (s1.trans (s15.trans s6)) (.bl false)
        · exact h6.elim
      | false =>
        rw [if_neg (by simp)] at hb
        dsimp only
        rw [if_neg (by simp)]
        exact ⟨s15, hb⟩
  · rw [List.drop_eq_nil_of_le (Nat.le_of_not_lt hi)] at hl
    exact .inl ⟨(show i = ds.length by omega) ▸ hst, k _ _ H' hl (s1.trans s3) (.bl true)⟩
theorem b_all : bootBuiltins "all" = some (.builtin "all") := by decide +kernel
section
variable {X : Cx} {Ps : List Addr} {elt tg iter : PySem.Expr} {ifs : List PySem.Expr} {scope : Scope} {gpos p pos : Pos} {own : List (Str × Nat)} {c P : Addr} {k : Nat} {di : DI} {g : DG} {tt : DT} {te : DE} {ts : List Nat}
theorem pd_all (hr : Room (k + 2) X.A) (hgl : Gl X "all") (hm : X.mg "all" = none) (TB : GxR.TabB X.base X.mg c P) (hP : P ∈ Ps) (hcode : X.env.code = .ref c) (hN : X.N.Nodup) (hco : scope.isCoroutine = false)
    (nc : (scope.names.all fun y => decide (y.2 ≠ .cell)) = true) (h0 : scope.names.lookup (".0" : Str) = some NameKind.local) (ok : BlkOk X.N X.env.scope scope own) (hi : PI X tg iter (liftI X.K Ps di))
    (hg : ∀ (s : Shared) (H : Hp) (C : Addr) (code : Value) (B : Around) (fp : List Addr) (pn : List (Addr × Obj)), Room k B → PG (gex X s H (gEnv X scope C code) B fp pn) tg (liftG X.K Ps ts g))
    (ht : ∀ (s : Shared) (H : Hp) (C : Addr) (code : Value) (B : Around) (fp : List Addr) (pn : List (Addr × Obj)), Room k B → PTs (gex X s H (gEnv X scope C code) B fp pn) ifs (liftT X.K Ps tt))
    (he : ∀ (s : Shared) (H : Hp) (C : Addr) (code : Value) (B : Around) (fp : List Addr) (pn : List (Addr × Obj)), Room k B → PE (gex X s H (gEnv X scope C code) B fp pn) elt (lift X.K Ps te))
    (hs : ∀ v, genFold iter X.env v = pure v := by intro _; rfl) (hts : ∀ t ∈ ts, t ∈ own.map (·.2) := by decide)
    (hst : starEach [.GeneratorExp elt [⟨tg, iter, ifs, 0⟩] scope gpos] X.env = (false, eval (.GeneratorExp elt [⟨tg, iter, ifs, 0⟩] scope gpos) X.env) :: starEach [] X.env := by rfl) :
    PE X (.Call (.Name "all" p) [.GeneratorExp elt [⟨tg, iter, ifs, 0⟩] scope gpos] [] pos) (lift X.K Ps (dAll di g tt te (own.map (·.2)))) :=
  pe_weak (pe_allG hr hgl hm b_all TB hcode hN hco (fun y hy => of_decide_eq_true (List.all_eq_true.mp nc y hy)) h0 ok hi hg ht he hs hst) fun _ _ _ => lift_all hP hts
end
end Dl
end
section
set_option Elab.async false
set_option linter.all false
set_option maxRecDepth 100000
set_option maxHeartbeats 1000000
namespace Dl
open PySem PySem.Spec PyProof.Rows L2 HbE Evl RZ Gx
/-- a def whose code object stands at c -/
structure FunC (K : PySem.W.Frag) (x qual : Str) (st : Stmt) (c f : Addr) (fd : FuncData) : Prop where
  ex : ∃ (oc : Value) (od : Option Addr) (kV doc pm : Value) (an : Option Addr) (ct : Value) (osl : Array (Option Value)), fd = PySem.W.fnOf x qual (defArgs st) (defBody st) (defScope st) .none kV doc pm an (.ref c) ct ∧
    K.lookup f = some ⟨oc, od, .func (PySem.W.fnOf x qual (defArgs st) (defBody st) (defScope st) .none kV doc pm an (.ref c) ct), osl⟩ ∧ PySem.W.codeIn K (.ref c) qual = true
  kp : PySem.W.keepIn K (.ref f) = true
section
variable {P : Program} {w : World} {K : PySem.W.Frag} {mg : Str → Option Value} {base : Heap} {Ps : List Addr}
theorem okDC {x qual : Str} {st : Stmt} {c f : Addr} {fd : FuncData} {N ps : List Str} {k : Nat} {SD : DSp} (F : FunC K x qual st c f fd) (S : FnScope N ps (defScope st)) (len : ∀ ws Q, SD ws Q → ws.length = ps.length)
    (body : ∀ (A : Around) (outer : List Env) (s : Shared) (H : Hp) (E : XK), Room k (A.deeper (envOfC qual (defScope st) s.heap.objs.size f (.ref c))) →
      ∃ db, PSs (cxOf CX0 P w K mg base N qual (defScope st) f (.ref c) A outer s H E).nox (defBody st) (liftS K Ps db) ∧ ∀ ws Qd, SD ws Qd → db { nx := fun _ => Qd .none, rt := Qd } (startD N.length ws)) :
    FnOk P w K mg base CX0 (k + 1) f fd ps (spOf K Ps SD) := by
  obtain ⟨oc, od, kV, doc, pm, an, ct, osl, rfl, lk, hcd⟩ := F.ex
  refine fn_of lk hcd S (fun vs H Q E h => ?_) fun A outer s H vs Q E hr h => ?_
  · obtain ⟨M, hs, ws, Qd, wf, p, s, _⟩ := h
    rw [paired_len p]
    exact len ws Qd s
  · obtain ⟨db, h1, h2⟩ := body A outer s H E hr
    obtain ⟨M, hs, ws, Qd, wf, p, sd, k⟩ := h
    refine ⟨_, h1.nox, ⟨hs, M, H, msk M H⟩, hs, [], _, _, sts_start N rfl wf p, h2 ws Qd sd, fun hs' as' σ' H' σd' T h => ?_, fun v H' d s q h => k d v H' h s q, fun _ _ _ _ _ _ h => h.elim, fun _ _ _ _ _ _ h => h.elim⟩
    exact k .none .non H' h T.fr.st .non
end
end Dl
end
section
set_option Elab.async false
set_option linter.all false
set_option maxRecDepth 100000
set_option maxHeartbeats 1000000
namespace Dl
open PySem PySem.Spec PyProof.Rows L2 HbE Evl RZ Gx PySem.W 
section
variable {X : Cx} {Ps : List Addr}
def valI : V → Int
  | .int i => i
  | _ => 0
theorem map_valI (ns : List Int) : (ns.map V.int).map valI = ns := by
  induction ns with
  | nil => rfl
  | cons n ns ih => rw [List.map_cons, List.map_cons, ih]; rfl
def rSumS (K : PySem.W.Frag) : List V → Hp → VK → Prop := fun vs H Q => ∃ (a : Addr) (ns : List Int), vs = [V.ref a] ∧ (SqL K H a (ns.map V.int) ∨ SqT K H a (ns.map V.int)) ∧ Q (.int ns.sum) H
theorem cr_sumS (hc : X.calm = true) : CallR X (.builtin "sum") (rSumS X.K) := by
  intro pins s σ H vs us Q I r h
  obtain ⟨a, ns, rfl, hs, q⟩ := h
  rcases hs with hs | hs
  · exact cr_sum hc pins s σ H _ us Q I r ⟨a, ns, rfl, hs, q⟩
  · obtain ⟨its, rv, hl, _⟩ := I.tuple hs
    rw [Vals.ref1 r]
    refine call_sum_walkAnyS (iter_tupleW (A := X.A.in1) (I.ok.hd hc) (show s.heap.IsTuple a its.toArray from hl) fun s₂ e W st hfp hw hk => ?_)
    have at_ : ∀ (i : Nat) (v : Value), its.toArray[i]? = some v → ∃ n t, ns[i]? = some n ∧ v = .int n t := fun i v hv => by
      have hv' : its[i]? = some v := by simpa using hv
      have hi : i < (ns.map V.int).length := by rw [rv.length]; exact (List.getElem?_eq_some_iff.mp hv').1
      obtain ⟨u, hu, ru⟩ := rv.get (List.getElem?_eq_getElem hi)
      rw [hv'] at hu
      cases hu
      have hi' : i < ns.length := by simpa using hi
      rw [List.getElem_map] at ru
      obtain ⟨t, ht⟩ := ru
      exact ⟨ns[i], t, List.getElem?_eq_getElem hi', ht⟩
    refine ⟨_, _, _, _, _, _, _, fun i => ns.getD i 0, rfl, W, st, hfp, fun i v hv => ?_, fun s' t' m => ?_⟩
    · obtain ⟨n, t, h1, h2⟩ := at_ i v hv
      exact ⟨t, by rw [h2]; simp [List.getD_eq_getElem?_getD, h1]⟩
    · obtain ⟨h', tk, rfl, hk'⟩ := moved_old e rfl m
      have e1 : preSum (fun i => ns.getD i 0) its.toArray.size = ns.sum := by
        have z := preSum_list (h := valI) (ns.map V.int) (fun i => ns.getD i 0) (fun i x hx => by
          rw [List.getElem?_map] at hx
          cases e2 : ns[i]? with
          | none => rw [e2] at hx; cases hx
          | some n => rw [e2] at hx; cases hx; simp [List.getD_eq_getElem?_getD, e2, valI]) its.toArray.size (by rw [List.size_toArray, ← rv.length]; exact Nat.le_refl _)
        rw [z, List.take_of_length_le (by rw [List.size_toArray, ← rv.length]; exact Nat.le_refl _), map_valI]
      exact ⟨.int _, H, I.kept (t' := tk) hk', ⟨t', by rw [e1]⟩, q⟩
def fSumS : Bool → List PyData → (PyData → Prop) → Prop := fun _ ds Q => match intsD ds with
  | some ns => Q (.int ns.sum)
  | none => False
theorem opq_sumS {K : PySem.W.Frag} : OpQ K Ps (rSumS K) fSumS := by
  intro M hs H p xs b ds Qd Q wf h1 h2 h k
  unfold fSumS at h
  split at h
  · rename_i ns q
    rw [intsD_dp h2 q] at h1
    refine ⟨p, ns, rfl, ?_, k _ _ H h Step.refl (.int _)⟩
    cases b with
    | true => exact .inl h1
    | false => exact .inr h1
  · exact h.elim
end
/-! ### products of which one side is small, or both not too long -/
def CMulE (i j : Int) : Prop := CMul i j ∨ CMulX i j
theorem op_mulE {X : Cx} : OpR X (binaryOp .Mult) (rI CMulE fun i j => .int (i * j)) := opI fun _ _ _ _ _ _ _ hc q => mul_int q (hc.elim CMul.ok CMulX.ok)
theorem mulL {a b : Int} (h : a.natAbs < 2 ^ 64) : CMulE a b := .inl (.inl ⟨by omega, by omega⟩)
theorem mulR {a b : Int} (h : b.natAbs < 2 ^ 64) : CMulE a b := .inl (.inr ⟨by omega, by omega⟩)
theorem modL (x : Int) {m : Int} (h0 : 0 < m) (h : m ≤ 2 ^ 63) : (x % m).natAbs < 2 ^ 64 := by
  have := Int.emod_lt_of_pos x h0
  have := Int.emod_nonneg x (show m ≠ 0 by omega)
  omega
end Dl
end
section
set_option Elab.async false
set_option linter.all false
set_option maxRecDepth 100000
set_option maxHeartbeats 1000000
/-! Loops over data by an invariant; comprehensions by a function. -/
namespace Dl
open PySem PySem.Spec PyProof.Rows L2 HbE Evl RZ Gx
theorem forD_inv {g : DG} {tb : DS} {D : ED} {σ : Sd} {ds : List PyData} (I : Nat → Sd → Prop) (h0 : I 0 σ) (hs : ∀ (i : Nat) (d : PyData) (σ : Sd) (N : Sd → Prop), ds[i]? = some d → I i σ → (∀ σ', I (i + 1) σ' → N σ') → g d σ fun σ2 => tb { D with nx := N, ct := N, bk := D.nx } σ2)
    (hd : ∀ σ, I ds.length σ → D.nx σ) : forD g tb D ds σ := by
  have main : ∀ (es : List PyData) (k : Nat) (σ : Sd), ds.drop k = es → k ≤ ds.length → I k σ → forD g tb D es σ := by
    intro es
    induction es with
    | nil =>
      intro k σ e hk hI
      have : k = ds.length := by
        have := congrArg List.length e
        simp at this
        omega
      subst this
      exact hd σ hI
    | cons d es ih =>
      intro k σ e hk hI
      have hk2 : k < ds.length := by
        have := congrArg List.length e
        simp at this
        omega
      rw [List.drop_eq_getElem_cons hk2] at e
      cases e
      exact hs k _ σ _ (List.getElem?_eq_getElem hk2) hI fun σ' hI' => ih (k + 1) σ' rfl hk2 hI'
  exact main ds 0 σ rfl (Nat.zero_le _) h0
theorem lcD_map {g : DG} {te : DE} {σ0 : Sd} {Q : List PyData → Prop} {f : PyData → PyData} : ∀ {ds acc : List PyData}, (∀ d ∈ ds, ∀ N : PyData → Prop, N (f d) → g d σ0 fun σ2 => te σ2 N) → Q (acc ++ ds.map f) → lcD g dYes te σ0 Q ds acc
  | [], acc, _, q => by simpa [lcD] using q
  | d :: ds, acc, hs, q => by
    unfold lcD
    have h := hs d List.mem_cons_self (fun y => lcD g dYes te σ0 Q ds (acc ++ [y])) (lcD_map (f := f) (fun d hd => hs d (List.mem_cons_of_mem _ hd)) (by simpa using q))
    simpa [dYes] using h
theorem allD_map {g : DG} {te : DE} {σ0 : Sd} {Q : Bool → Prop} {f : PyData → Bool} : ∀ {ds : List PyData}, (∀ d ∈ ds, ∀ N : PyData → Prop, N (.bool (f d)) → g d σ0 fun σ2 => te σ2 N) → Q (ds.all f) → allD g dYes te σ0 Q ds
  | [], _, q => by simpa [allD] using q
  | d :: ds, hs, q => by
    unfold allD
    simp only [dYes, if_true]
    refine hs d List.mem_cons_self _ ?_
    cases hf : f d with
    | true =>
      simp only [if_true]
      exact allD_map (f := f) (fun d hd => hs d (List.mem_cons_of_mem _ hd)) (by simpa [hf] using q)
    | false => simpa [hf] using q
theorem shaped_int (i : Int) : SeqAt.shaped (.int i) = true := rfl
end Dl
end
section
set_option Elab.async false
set_option linter.all false
set_option maxRecDepth 100000
set_option maxHeartbeats 1000000
namespace Dl
open PySem PySem.Spec PyProof.Rows L2 HbE Evl RZ Gx PySem.W
theorem fmin_spec : ∀ (ns : List Int) (n : Int), (ns.foldl min n) ∈ n :: ns ∧ ∀ y ∈ n :: ns, ns.foldl min n ≤ y
  | [], n => by simp
  | k :: ns, n => by
    obtain ⟨h1, h2⟩ := fmin_spec ns (min n k)
    rw [List.foldl_cons]
    refine ⟨?_, fun y hy => ?_⟩
    · rcases List.mem_cons.mp h1 with e | e
      · rw [e]
        rcases Int.le_total n k with q | q
        · rw [Int.min_eq_left q]; exact List.mem_cons_self
        · rw [Int.min_eq_right q]; exact List.mem_cons_of_mem _ List.mem_cons_self
      · exact List.mem_cons_of_mem _ (List.mem_cons_of_mem _ e)
    · have h0 := h2 (min n k) List.mem_cons_self
      rcases List.mem_cons.mp hy with rfl | hy
      · exact Int.le_trans h0 (Int.min_le_left _ _)
      · rcases List.mem_cons.mp hy with rfl | hy
        · exact Int.le_trans h0 (Int.min_le_right _ _)
        · exact h2 y (List.mem_cons_of_mem _ hy)
def rMinS (K : PySem.W.Frag) : List V → Hp → VK → Prop := fun vs H Q => ∃ (a : Addr) (n : Int) (ns : List Int), vs = [V.ref a] ∧ (SqL K H a ((n :: ns).map V.int) ∨ SqT K H a ((n :: ns).map V.int)) ∧ Q (.int (ns.foldl min n)) H
section
variable {X : Cx} {Ps : List Addr}
theorem reads_ints {h : Heap} : ∀ {ns : List Int} {us : List Value}, Vals (ns.map V.int) us → ∃ as, ReadsAll h us (ns.map PyData.int) as
  | [], _, r => by cases r; exact ⟨_, .nil⟩
  | n :: ns, _, r => by
    cases r with
    | cons r1 r2 =>
      obtain ⟨t, rfl⟩ := r1
      obtain ⟨as, q⟩ := reads_ints r2
      exact ⟨_, .cons (.int n t) q⟩
theorem cr_minS (hc : X.calm = true) (hu : X.A.units + 64 < cLine) : CallR X (.builtin "min") (rMinS X.K) := by
  intro pins s σ H vs us Q I r h
  obtain ⟨a, n, ns, rfl, hs, q⟩ := h
  obtain ⟨m1, m2⟩ := fmin_spec ns n
  rcases hs with hs | hs
  · refine cr_min hc pins s σ H _ us Q I r ⟨a, n :: ns, rfl, hs, by simp, fun m h1 h2 => ?_⟩
    have e : m = ns.foldl min n := Int.le_antisymm (h2 _ m1) (m2 _ h1)
    rw [e]; exact q
  · obtain ⟨its, rv, hl, _⟩ := I.tuple hs
    rw [Vals.ref1 r]
    obtain ⟨as, hr⟩ := reads_ints (h := s.heap) (ns := n :: ns) rv
    have dz : PyData.depthAll ((n :: ns).map PyData.int) = 0 := by
      have : ∀ l : List Int, PyData.depthAll (l.map PyData.int) = 0 := fun l => by
        induction l with
        | nil => simp [PyData.depthAll]
        | cons k l ih => simp [PyData.depthAll, PyData.depth, ih]
      exact this _
    refine min_tuple_data (x := .int n) (xs := ns.map PyData.int) (I.ok.hd hc) (show s.heap.IsTuple a its.toArray from hl) (by simpa using hr) ⟨fun x hx y hy => ?_, fun x hx => ?_⟩ (by rw [List.map_cons] at dz; rw [dz]; omega) fun i v h' tk bs _ rr hk => ?_
    · rw [← List.map_cons] at hx hy
      obtain ⟨i, _, rfl⟩ := List.mem_map.mp hx
      obtain ⟨j, _, rfl⟩ := List.mem_map.mp hy
      rfl
    · rw [← List.map_cons] at hx
      obtain ⟨i, _, rfl⟩ := List.mem_map.mp hx
      exact fun z => by cases z
    · rw [minD_ints] at rr
      cases rr with
      | int j t => exact ⟨.int _, H, I.kept (t' := tk) hk, ⟨t, rfl⟩, q⟩
def fMinS : Bool → List PyData → (PyData → Prop) → Prop := fun _ ds Q => match intsD ds with
  | some (n :: ns) => Q (.int (ns.foldl min n))
  | _ => False
theorem opq_minS {K : PySem.W.Frag} : OpQ K Ps (rMinS K) fMinS := by
  intro M hs H p xs b ds Qd Q wf h1 h2 h k
  unfold fMinS at h
  split at h
  · rename_i n ns q
    rw [intsD_dp h2 q] at h1
    refine ⟨p, n, ns, rfl, ?_, k _ _ H h Step.refl (.int _)⟩
    cases b with
    | true => exact .inl h1
    | false => exact .inr h1
  · exact h.elim
theorem fmax_spec : ∀ (ns : List Int) (n : Int), (ns.foldl max n) ∈ n :: ns ∧ ∀ y ∈ n :: ns, y ≤ ns.foldl max n
  | [], n => by simp
  | k :: ns, n => by
    obtain ⟨h1, h2⟩ := fmax_spec ns (max n k)
    rw [List.foldl_cons]
    refine ⟨?_, fun y hy => ?_⟩
    · rcases List.mem_cons.mp h1 with e | e
      · rw [e]
        rcases Int.le_total n k with q | q
        · rw [Int.max_eq_right q]; exact List.mem_cons_of_mem _ List.mem_cons_self
        · rw [Int.max_eq_left q]; exact List.mem_cons_self
      · exact List.mem_cons_of_mem _ (List.mem_cons_of_mem _ e)
    · have h0 := h2 (max n k) List.mem_cons_self
      rcases List.mem_cons.mp hy with rfl | hy
      · exact Int.le_trans (Int.le_max_left _ _) h0
      · rcases List.mem_cons.mp hy with rfl | hy
        · exact Int.le_trans (Int.le_max_right _ _) h0
        · exact h2 y (List.mem_cons_of_mem _ hy)
def rMaxS (K : PySem.W.Frag) : List V → Hp → VK → Prop := fun vs H Q => ∃ (a : Addr) (n : Int) (ns : List Int), vs = [V.ref a] ∧ (SqL K H a ((n :: ns).map V.int) ∨ SqT K H a ((n :: ns).map V.int)) ∧ Q (.int (ns.foldl max n)) H
theorem cr_maxS (hc : X.calm = true) (hu : X.A.units + 64 < cLine) : CallR X (.builtin "max") (rMaxS X.K) := by
  intro pins s σ H vs us Q I r h
  obtain ⟨a, n, ns, rfl, hs, q⟩ := h
  obtain ⟨m1, m2⟩ := fmax_spec ns n
  rcases hs with hs | hs
  · refine cr_max hc pins s σ H _ us Q I r ⟨a, n :: ns, rfl, hs, by simp, fun m h1 h2 => ?_⟩
    have e : m = ns.foldl max n := Int.le_antisymm (m2 _ h1) (h2 _ m1)
    rw [e]; exact q
  · obtain ⟨its, rv, hl, _⟩ := I.tuple hs
    rw [Vals.ref1 r]
    obtain ⟨as, hr⟩ := reads_ints (h := s.heap) (ns := n :: ns) rv
    have dz : PyData.depthAll ((n :: ns).map PyData.int) = 0 := by
      have : ∀ l : List Int, PyData.depthAll (l.map PyData.int) = 0 := fun l => by
        induction l with
        | nil => simp [PyData.depthAll]
        | cons k l ih => simp [PyData.depthAll, PyData.depth, ih]
      exact this _
    refine max_tuple_data (x := .int n) (xs := ns.map PyData.int) (I.ok.hd hc) (show s.heap.IsTuple a its.toArray from hl) (by simpa using hr) ⟨fun x hx y hy => ?_, fun x hx => ?_⟩ (by rw [List.map_cons] at dz; rw [dz]; omega) fun i v h' tk bs _ rr hk => ?_
    · rw [← List.map_cons] at hx hy
      obtain ⟨i, _, rfl⟩ := List.mem_map.mp hx
      obtain ⟨j, _, rfl⟩ := List.mem_map.mp hy
      rfl
    · rw [← List.map_cons] at hx
      obtain ⟨i, _, rfl⟩ := List.mem_map.mp hx
      exact fun z => by cases z
    · rw [maxD_ints] at rr
      cases rr with
      | int j t => exact ⟨.int _, H, I.kept (t' := tk) hk, ⟨t, rfl⟩, q⟩
def fMaxS : Bool → List PyData → (PyData → Prop) → Prop := fun _ ds Q => match intsD ds with
  | some (n :: ns) => Q (.int (ns.foldl max n))
  | _ => False
theorem opq_maxS {K : PySem.W.Frag} : OpQ K Ps (rMaxS K) fMaxS := by
  intro M hs H p xs b ds Qd Q wf h1 h2 h k
  unfold fMaxS at h
  split at h
  · rename_i n ns q
    rw [intsD_dp h2 q] at h1
    refine ⟨p, n, ns, rfl, ?_, k _ _ H h Step.refl (.int _)⟩
    cases b with
    | true => exact .inl h1
    | false => exact .inr h1
  · exact h.elim
end
end Dl
end
section
set_option Elab.async false
set_option linter.all false
set_option maxRecDepth 100000
set_option maxHeartbeats 1000000
namespace Dl
open PySem PySem.Spec PyProof.Rows L2 HbE Evl HT
/-! ### t[::-1] -/
section
variable {prog : Program} {w : World} {A : Around} {E : Value → Shared → Prop} {s : Shared}
theorem adjust_back (n : Nat) : Builtin.Slice.sliceAdjust none none (-1) (n : Int) = ((n : Int) - 1, -1) := by
  unfold Builtin.Slice.sliceAdjust
  simp
theorem places_back (n : Nat) : Builtin.Slice.slicePlaces ((n : Int) - 1) (-1) (-1) = n := by
  unfold Builtin.Slice.slicePlaces
  simp
  try omega
theorem pick_back (xs : Array Value) : ((List.range xs.size).filterMap fun (m : Nat) => xs[(((xs.size : Int) - 1) + (m : Int) * -1).toNat]?).toArray = xs.toList.reverse.toArray := by
  congr 1
  apply List.ext_getElem?
  intro i
  have h : ∀ k, k ≤ xs.size → ((List.range k).filterMap fun (m : Nat) => xs[(((xs.size : Int) - 1) + (m : Int) * -1).toNat]?) = xs.toList.reverse.take k := by
    intro k
    induction k with
    | zero => intro _; simp
    | succ k ih =>
      intro hk
      rw [List.range_succ, List.filterMap_append, ih (by omega), List.take_add_one]
      congr 1
      have e : (((xs.size : Int) - 1) + (k : Int) * -1).toNat = xs.size - 1 - k := by omega
      simp only [List.filterMap_cons, List.filterMap_nil, e]
      rw [List.getElem?_reverse (by rw [Array.length_toList]; omega)]
      simp only [Array.length_toList, Array.getElem?_toList]
      cases xs[xs.size - 1 - k]? <;> rfl
  rw [h xs.size (Nat.le_refl _)]
  rw [List.take_of_length_le (by simp)]
theorem sliceApplied_back {sl : Addr} {vk : Value} {n : Nat} {Q : Int × Int × Nat → Shared → Prop} {vl vu : Value} (hs : s.heap.IsSliceOf sl vl vu vk) (pl : IsPart vl none) (pu : IsPart vu none) (pk : IsPart vk (some (-1)))
    (h : Q ((n : Int) - 1, -1, n) s) : wpAny (model prog w) A (Builtin.Slice.sliceApplied (.ref sl) (pure (n : Int))) Q E s := by
  obtain ⟨os, hos, hcs, hds⟩ := id hs
  unfold Builtin.Slice.sliceApplied Builtin.Slice.sliceFields
  refine wpAny_bind (wpAny_bind (wpAny_field hos hds (x := vl) rfl (wpAny_bind (wpAny_field hos hds (x := vu) rfl (wpAny_bind (wpAny_field hos hds (x := vk) rfl (wpAny_pure ?_)))))))
  refine wpAny_bind (slicePart_ pk ?_)
  show wpAny _ _ (if ((-1 : Int) == 0) = true then _ else _) _ _ s
  rw [if_neg (by decide)]
  refine wpAny_bind (slicePart_ pl (wpAny_bind (slicePart_ pu (wpAny_bind (wpAny_pure ?_)))))
  show wpAny _ _ (match Builtin.Slice.sliceAdjust none none (-1) (n : Int) with | (lo, hi) => pure (lo, (-1 : Int), Builtin.Slice.slicePlaces lo hi (-1))) _ _ s
  rw [adjust_back n]
  show wpAny _ _ (pure (((n : Int) - 1), (-1 : Int), Builtin.Slice.slicePlaces ((n : Int) - 1) (-1) (-1))) _ _ s
  rw [places_back]
  exact wpAny_pure h
theorem getItem_tuple_back {t sl : Addr} {items : Array Value} {vl vu vk : Value} {Q : Value → Shared → Prop} (ht : IsTup s.heap t items) (hs : s.heap.IsSliceOf sl vl vu vk) (pl : IsPart vl none) (pu : IsPart vu none) (pk : IsPart vk (some (-1)))
    (h : Q (.ref s.heap.objs.size) { s with heap := s.heap.push { cls := .type "tuple", data := .seq items.toList.reverse.toArray } })
    (hsz : items.size ≤ sizeLine) : wpAny (model prog w) A (getItem (.ref t) (.ref sl)) Q E s := by
  have htake : sizeOk (.seq items.toList.reverse.toArray) := by
    show items.toList.reverse.toArray.size ≤ sizeLine
    rw [List.size_toArray, List.length_reverse, Array.length_toList]
    exact hsz
  obtain ⟨os, hos, hcs, hds⟩ := id hs
  have hTs : s.TypeIs (.ref sl) "slice" := ⟨os, hos, hcs⟩
  unfold getItem
  try with_reducible refine wpAny_holding ?_
  first | refine wpAny_bind (wpAny_pure ?_) | skip
  refine wpAny_bind (wpAny_sequenceKey ht.typeIs (by decide) ?_)
  refine wpAny_bind (wpAny_callSpecial?_slot (name := Str.ofString "__getitem__") ht.typeIs PyProof.Rows.slot_tuple_getitem
    (wpAny_call_entry PyProof.Rows.slot_tuple_getitem ht.typeIs entry_tuple_getitem ?_ (args_tuple_getitem _ _)))
  show wpAny _ _ (Builtin.Tuple.tupleItemsOf (.ref t) >>= _) _ _ s
  refine wpAny_bind (tupleItemsOf_ ht ?_)
  refine wpAny_bind (wpAny_typeOf hTs ?_)
  rw [if_pos (by decide)]
  refine wpAny_bind (sliceApplied_back hs pl pu pk ?_)
  have hno : ¬ ((((items.size : Int) - 1) == 0 && (-1 : Int) == 1 && items.size == items.size) = true) := by
    intro q
    rw [Bool.and_eq_true, Bool.and_eq_true] at q
    exact absurd q.1.2 (by decide)
  show wpAny _ _ (if (((items.size : Int) - 1) == 0 && (-1 : Int) == 1 && items.size == items.size) = true then _ else _) _ _ s
  rw [if_neg hno, pick_back]
  first
    | exact wpAny_bind (m := Builtin.Tuple.tupleExact _) (wpAny_newObj_type (wpAny_pure ⟨_, rfl, wpAny_pure h⟩) htake)
    | exact wpAny_bind (m := Builtin.Tuple.tupleExact _) (wpAny_newObj_type (wpAny_bind (wpAny_pure (wpAny_pure ⟨_, rfl, wpAny_pure h⟩))) htake)
    | exact wpAny_bind (wpAny_bind (m := Builtin.Tuple.tupleExact _) (wpAny_newObj_type (wpAny_pure (wpAny_pure ⟨_, rfl, wpAny_pure h⟩)) htake))
    | exact wpAny_bind (wpAny_bind (m := Builtin.Tuple.tupleExact _) (wpAny_newObj_type (wpAny_pure ⟨_, rfl, wpAny_pure h⟩) htake))
end
section
variable {X : Cx} {Ps : List Addr} {e a b c0 : PySem.Expr} {es : List PySem.Expr} {pos p p2 : Pos} {de : DE} {dl : DL}
/-- t[::-1], a list or a tuple -/
def tBack (K : PySem.W.Frag) (te : TE) : TE := fun σ H Q => te σ H fun x H1 => ∃ a xs, x = .ref a ∧ ((SqL K H1 a xs ∧ ∀ p, H1 p = none → Q (.ref p) (upd H1 p (.lst xs.reverse))) ∨ (SqT K H1 a xs ∧ ∀ p, H1 p = none → Q (.ref p) (upd H1 p (.tup xs.reverse))))
theorem pe_back {e : Expr} {te : TE} {k : Nat} {p1 p2 p3 pos : Pos} (he : PE X e te) : PE X (.Subscript e (.Slice none none (some (.UnaryOp .USub (.Constant (.int 1) k p1) p2)) p3) pos) (tBack X.K te) := by
  refine ⟨fun pins s σ H Q I h => ?_⟩
  refine Subscript_ (thn (he.run pins s σ H _ I h) fun v s1 ⟨x, H1, I1, r1, q1⟩ => ?_)
  obtain ⟨a, xs, ex, hq⟩ := q1
  subst ex
  cases r1
  have hst : PO X (some (.UnaryOp .USub (.Constant (.int 1) k p1) p2)) (tPart (tUn (rU fun i => .int (-i)) (tC (.int 1)))) := po_some (pe_un un_neg pe_int)
  refine wpAny_Slice (thn (po_none.run pins s1 σ H1 (fun o H2 => o = none ∧ H2 = H1) I1 ⟨rfl, rfl⟩) fun vl s2 ⟨l, H2, I2, pl, el, e2⟩ => ?_)
  subst el e2
  refine thn (po_none.run pins s2 σ H2 (fun o H3 => o = none ∧ H3 = H2) I2 ⟨rfl, rfl⟩) fun vu s3 ⟨u, H3, I3, pu, eu, e3⟩ => ?_
  subst eu e3
  refine thn (hst.run pins s3 σ H3 (fun o H4 => o = some (-1) ∧ H4 = H3) I3 ⟨1, rfl, -1, rfl, rfl, rfl⟩) fun vs s4 ⟨o, H4, I4, ps, eo, e4⟩ => ?_
  subst eo e4
  have I5 : Inv X pins σ H4 { s4 with heap := s4.heap.push { cls := .type "slice", data := .fields #[vl, vu, vs] } } := I4.kept (t' := s4.toks) fun b ob q => Heap.get?_push_of_some _ q
  show wpAny (model X.prog X.w) X.A (subscriptTail e (.Slice none none (some (.UnaryOp .USub (.Constant (.int 1) k p1) p2)) p3) (.ref a) (.ref s4.heap.objs.size)) (EP X pins σ Q) X.xe { s4 with heap := s4.heap.push { cls := .type "slice", data := .fields #[vl, vu, vs] } }
  rcases hq with ⟨hx, q⟩ | ⟨hx, q⟩
  · obtain ⟨its, r, ht, hz⟩ := I5.list hx
    have hlen := r.length
    refine tail_any (ops := [.ref a, .ref s4.heap.objs.size]) ht.isList.typeIs (PySem.slot_list_getitem.lookup) ?_ (by with_unfolding_all rfl)
    refine wpAny_getItem_list_slice ht.isList (Heap.IsSliceOf.new _ vl vu vs) pl pu ps (by decide) ?_ (by rw [List.size_toArray]; omega)
    rw [PySem.W.krv_pick]
    refine ⟨.ref _, _, I5.laid (t' := s4.toks) (o := .lst xs.reverse) (fun b ob q => Heap.get?_push_of_some _ q) (Nat.le_refl _) ?_, rfl, q _ (I5.hok.fresh (Nat.le_refl _))⟩
    exact ⟨by rw [List.length_reverse]; exact hz, _, 0, r.reverse, Heap.get?_push_size _ rfl⟩
  · obtain ⟨its, r, ht, hz⟩ := I5.tuple hx
    have hlen : its.toArray.size = xs.length := by rw [List.size_toArray]; exact r.length.symm
    refine tail_any (ops := [.ref a, .ref s4.heap.objs.size]) ht.typeIs (PyProof.Rows.slot_tuple_getitem.lookup) ?_ (by with_unfolding_all rfl)
    refine getItem_tuple_back ht (Heap.IsSliceOf.new _ vl vu vs) pl pu ps ?_ (by rw [hlen]; exact hz)
    refine ⟨.ref _, _, I5.laid (t' := s4.toks) (o := .tup xs.reverse) (fun b ob q => Heap.get?_push_of_some _ q) (Nat.le_refl _) ?_, rfl, q _ (I5.hok.fresh (Nat.le_refl _))⟩
    exact ⟨by rw [List.length_reverse]; exact hz, _, r.reverse, IsTup.new _ _⟩
theorem dpAll_rev {K : PySem.W.Frag} {H : Hp} : ∀ {vs : List V} {ds : List PyData}, DpAll K H vs ds → DpAll K H vs.reverse ds.reverse
  | _, _, .nil => .nil
  | _, _, .cons h1 h2 => by
    rw [List.reverse_cons, List.reverse_cons]
    exact (dpAll_rev h2).app (.cons h1 .nil)
def dBack (dq : DQ) : DE := fun σ Q => dq σ fun b ds => Q (if b then .list ds.reverse else .tuple ds.reverse)
theorem pd_back {dq : DQ} {k : Nat} {p1 p3 : Pos} (he : PE X e (liftQ X.K Ps dq)) : PE X (.Subscript e (.Slice none none (some (.UnaryOp .USub (.Constant (.int 1) k p1) p2)) p3) pos) (lift X.K Ps (dBack dq)) :=
  pe_weak (pe_back he) fun σ H Q ⟨c, hs, as, σd, Qd, S, hd, kk⟩ =>
    ⟨c, hs, as, σd, _, S, hd, fun b ds v H1 h1 s1 r1 => by
      have T := S.step s1
      obtain ⟨q, xs, rfl, h4, h5⟩ := r1.ex
      cases b with
      | true => exact ⟨q, xs, rfl, .inl ⟨h4, fun l hl => kk _ _ _ h1 (s1.trans (Step.of_ex (Ex.new hl))) (dp_newL T.fr.wf hl (dpAll_rev h5))⟩⟩
      | false => exact ⟨q, xs, rfl, .inr ⟨h4, fun l hl => kk _ _ _ h1 (s1.trans (Step.of_ex (Ex.new hl))) (dp_newT T.fr.wf hl (dpAll_rev h5))⟩⟩⟩

/-! ### list(..) of a list or a tuple -/
def dListOf (dq : DQ) : DL := fun σ Q => dq σ fun _ ds => Q ds
theorem lift_listOf {dq : DQ} {σ : L2.St} {H : Hp} {Q : VK} (h : liftN X.K Ps (dListOf dq) σ H Q) : tCB (fun xs H Q => ∃ p ys, xs = [.ref p] ∧ (SqL X.K H p ys ∨ SqT X.K H p ys) ∧ ∀ l, H l = none → Q (.ref l) (upd H l (.lst ys))) (tCons (liftQ X.K Ps dq) tNil) σ H Q := by
  obtain ⟨c, hs, as, σd, Qd, S, hd, k⟩ := h
  refine ⟨c, hs, as, σd, _, S, hd, fun b ds v H1 h1 s1 r1 => ?_⟩
  obtain ⟨p, xs, rfl, h3, h4⟩ := r1.ex2
  exact ⟨p, xs, rfl, h3, fun l hl => k _ l _ _ h1 (s1.trans (Step.of_ex (Ex.new hl))) (none_of S.fr s1 hl) upd_same (own_new hl h4)⟩
theorem pn_list {dq : DQ} (hg : Gl X "list") (hm : X.mg "list" = none) (ha : PE X e (liftQ X.K Ps dq)) (he : starEach [e] X.env = (false, eval e X.env) :: starEach [] X.env := by rfl) : PE X (.Call (.Name "list" p) [e] [] pos) (liftN X.K Ps (dListOf dq)) :=
  pe_weak (pe_callTy call_list_of hg hm b_list (pa_cons ha pa_nil he) (by decide) (by decide) he (by rfl)) fun _ _ _ => lift_listOf
/-! ### bool(..) -/
def fBool : List PyData → (PyData → Prop) → Prop := fun ds Q => match ds with
  | [.int i] => Q (.bool (i != 0))
  | [.bool b] => Q (.bool b)
  | _ => False
theorem opn_bool {K : PySem.W.Frag} : OpN K Ps (fun xs H Q => (∃ i, xs = [.int i] ∧ Q (.bl (i != 0)) H) ∨ ∃ k, xs = [.bl k] ∧ Q (.bl k) H) fBool := by
  intro M hs H vs ds Qd Q wf h f k
  unfold fBool at f
  split at f
  · cases h with | cons h1 h2 => cases h2; cases h1; exact .inl ⟨_, rfl, k _ _ H f Step.refl (.bl _)⟩
  · cases h with | cons h1 h2 => cases h2; cases h1; exact .inr ⟨_, rfl, k _ _ H f Step.refl (.bl _)⟩
  · exact f.elim
theorem b_bool : bootBuiltins "bool" = some (.type "bool") := by decide +kernel
/-! ### list + list -/
def rCatL (K : PySem.W.Frag) : R2 := fun x y H Q => ∃ l b xs zs, x = .ref l ∧ y = .ref b ∧ SqL K H l xs ∧ SqL K H b zs ∧ xs.length + zs.length ≤ sizeLine ∧ ∀ p, H p = none → Q (.ref p) (upd H p (.lst (xs ++ zs)))
theorem op_catL : OpR X (binaryOp .Add) (rCatL X.K) := by
  intro pins s σ H x y v u Q I rx ry h
  obtain ⟨l, b, xs, zs, rfl, rfl, hH, hB, hz, q⟩ := h
  cases rx
  cases ry
  obtain ⟨its, r, hl, z⟩ := I.list hH
  obtain ⟨its2, r2, hl2, z2⟩ := I.list hB
  have n1 := r.length
  have n2 := r2.length
  obtain ⟨⟨cls, dd, data, sl⟩, ho, hc, n, hd⟩ := id hl.isList
  obtain ⟨⟨cls2, dd2, data2, sl2⟩, ho2, hc2, m2, hd2⟩ := id hl2.isList
  simp only at hc hd hc2 hd2
  subst hc hd hc2 hd2
  have e : its.toArray ++ its2.toArray = (its ++ its2).toArray := by simp
  refine concat_meets ⟨_, ho, rfl⟩ ⟨_, ho2, rfl⟩ noFill_list_add seq_list_add PySem.F.slot_list_add PySem.F.entry_list_add (PySem.F.args_list_add_2 _ _) (list_addW l b its.toArray its2.toArray n m2 dd dd2 sl sl2 (by simp only [List.size_toArray]; omega)) ⟨ho, ho2, ?_⟩
  rw [e]
  exact ⟨.ref _, _, I.lnew (t' := s.toks) (r.append r2) (by rw [List.length_append]; omega), rfl, q _ I.fresh⟩
def dCatL (da db : DQ) : DL := fun σ Q => da σ fun k ds => db σ fun l es => k = true ∧ l = true ∧ ds.length + es.length ≤ 100000 ∧ Q (ds ++ es)
theorem pn_cat {da db : DQ} (ha : PE X a (liftQ X.K Ps da)) (hb : PE X b (liftQ X.K Ps db)) : PE X (.BinOp a .Add b pos) (liftN X.K Ps (dCatL da db)) := pe_weak (pe_op op_catL ha hb) fun σ H Q ⟨c, hs, as, σd, Qd, S, hd, k⟩ =>
  ⟨c, hs, as, σd, _, S, hd, fun k1 ds v H1 h1 s1 r1 => ⟨c, hs, as, σd, _, S.step s1, h1, fun k2 es w H2 h2 s2 r2 => by
    obtain ⟨rfl, rfl, hz, h2⟩ := h2
    obtain ⟨p, xs, rfl, h3, h4⟩ := (r1.step (S.step s1).fr s2).ex
    obtain ⟨q, ys, rfl, h5, h6⟩ := r2.ex
    refine ⟨p, q, xs, ys, rfl, rfl, h3, h5, sz_of (by rw [h4.len, h6.len]; exact hz), fun l hl => ?_⟩
    have s12 := s1.trans s2
    exact k _ l _ _ h2 (s12.trans (Step.of_ex (Ex.new hl))) (none_of S.fr s12 hl) upd_same (own_new hl (h4.app h6))⟩⟩
/-! ### x in xs -/
def flatD : PyData → Bool
  | .none => true
  | .bool _ => true
  | .int _ => true
  | .str _ => true
  | _ => false
theorem flat_eq {K : PySem.W.Frag} {H : Hp} {v w : V} {x y : PyData} (hx : Dp K H v x) (hy : Dp K H w y) (fx : flatD x = true) (fy : flatD y = true) : flatV v = true ∧ eqV v w = PyData.eqv x y := by
  cases hx <;> cases hy <;> first | (cases fx; done) | (cases fy; done) | exact ⟨rfl, rfl⟩ | exact ⟨rfl, by simp [eqV, PyData.eqv]⟩
theorem flat_of {K : PySem.W.Frag} {H : Hp} {v : V} {x : PyData} (hx : Dp K H v x) (fx : flatD x = true) : flatV v = true := by
  cases hx <;> first | (cases fx; done) | rfl
theorem flat_all {K : PySem.W.Frag} {H : Hp} {v : V} {x : PyData} (hx : Dp K H v x) (fx : flatD x = true) : ∀ {vs : List V} {ds : List PyData}, DpAll K H vs ds → ds.all flatD = true → vs.all flatV = true ∧ inV v vs = ds.any fun z => PyData.eqv z x
  | _, _, .nil, _ => ⟨rfl, rfl⟩
  | _, _, .cons h1 h2, f => by
    rw [List.all_cons, Bool.and_eq_true] at f
    obtain ⟨i1, i2⟩ := flat_all hx fx h2 f.2
    obtain ⟨j1, j2⟩ := flat_eq h1 hx f.1 fx
    refine ⟨by rw [List.all_cons, j1, i1]; rfl, ?_⟩
    unfold inV at i2 ⊢
    rw [List.any_cons, List.any_cons, j2, i2]
def rInA (K : PySem.W.Frag) (neg : Bool) : R2 := fun x y H Q => rIn K neg x y H Q ∨ (if neg then rNotInD K x y H Q else rInD K x y H Q)
theorem op_inA (hu : X.A.units + 65 < cLine) : OpR X (compareOp .In) (rInA X.K false) := by
  intro pins s σ H x y v u Q I rx ry h
  rcases h with h | h
  · exact op_in_seq pins s σ H x y v u Q I rx ry h
  · exact op_inD hu pins s σ H x y v u Q I rx ry h
theorem op_notInA (hu : X.A.units + 65 < cLine) : OpR X (compareOp .NotIn) (rInA X.K true) := by
  intro pins s σ H x y v u Q I rx ry h
  rcases h with h | h
  · exact op_notIn_seq pins s σ H x y v u Q I rx ry h
  · exact op_notInD hu pins s σ H x y v u Q I rx ry h
def inD (neg : Bool) (x : PyData) (ds : List PyData) : Bool := if neg then !(ds.any fun z => PyData.eqv z x) else ds.any fun z => PyData.eqv z x
def dIn (neg : Bool) (de : DE) (dq : DQ) : DE := fun σ Q => de σ fun x => dq σ fun b ds => ((flatD x = true ∧ ds.all flatD = true) ∨ (b = true ∧ SeqAt.shaped x = true ∧ SeqAt.shaped (.list ds) = true)) ∧ Q (.bool (inD neg x ds))
theorem lift_in {neg : Bool} {dq : DQ} {σ : L2.St} {H : Hp} {Q : VK} (h : lift X.K Ps (dIn neg de dq) σ H Q) : tOp (rInA X.K neg) (lift X.K Ps de) (liftQ X.K Ps dq) σ H Q := by
  obtain ⟨c, hs, as, σd, Qd, S, hd, k⟩ := h
  refine ⟨c, hs, as, σd, _, S, hd, fun x v H1 h1 s1 r1 => ⟨c, hs, as, σd, _, S.step s1, h1, fun b ds w H2 h2 s2 r2 => ?_⟩⟩
  obtain ⟨hc, h2⟩ := h2
  obtain ⟨p, xs, rfl, h3, h4⟩ := r2.ex2
  have rx := dp_mono ((S.step s1).fr.wf.ex s2) r1
  have fin := k _ (.bl (inD neg x ds)) H2 h2 (s1.trans s2) (.bl _)
  rcases hc with ⟨f1, f2⟩ | ⟨rfl, g1, g2⟩
  · obtain ⟨i1, i2⟩ := flat_all rx f1 h4 f2
    refine .inl ⟨p, xs, rfl, h3, flat_of rx f1, i1, ?_⟩
    rw [i2]
    exact fin
  · obtain ⟨p', xs', e, h5, h6⟩ := r2.ex
    cases e
    simp only [if_true] at h5
    have hy : Dp X.K H2 (.ref p) (.list ds) := .lst h5 (dpAll_mono msk_ex h6)
    cases neg with
    | true => exact .inr ⟨x, ds, dp_mono msk_ex rx, hy, g1, g2, fin⟩
    | false => exact .inr ⟨x, ds, dp_mono msk_ex rx, hy, g1, g2, fin⟩
theorem pd_in {dq : DQ} (hu : X.A.units + 65 < cLine) (ha : PE X a (lift X.K Ps de)) (hb : PE X b (liftQ X.K Ps dq)) (hm : behindInMarks .In b = false) : PE X (.Compare a [.In] [b] pos) (lift X.K Ps (dIn false de dq)) := pe_weak (pe_cmpR (op_inA hu) ha hb hm) fun _ _ _ => lift_in
theorem pd_notIn {dq : DQ} (hu : X.A.units + 65 < cLine) (ha : PE X a (lift X.K Ps de)) (hb : PE X b (liftQ X.K Ps dq)) (hm : behindInMarks .NotIn b = false) : PE X (.Compare a [.NotIn] [b] pos) (lift X.K Ps (dIn true de dq)) := pe_weak (pe_cmpR (op_notInA hu) ha hb hm) fun _ _ _ => lift_in
theorem ptd_in {dq : DQ} (hu : X.A.units + 65 < cLine) (ha : PE X a (lift X.K Ps de)) (hb : PE X b (liftQ X.K Ps dq)) (hm : behindInMarks .In b = false) : PT X (.Compare a [.In] [b] pos) (liftT X.K Ps (dTest (dIn false de dq))) := pt_weak (pt_cmpR (op_inA hu) ha hb hm) fun σ H Q h => by
  have h2 := lift_test h
  unfold tTest at h2 ⊢
  exact lift_in h2
theorem ptd_notIn {dq : DQ} (hu : X.A.units + 65 < cLine) (ha : PE X a (lift X.K Ps de)) (hb : PE X b (liftQ X.K Ps dq)) (hm : behindInMarks .NotIn b = false) : PT X (.Compare a [.NotIn] [b] pos) (liftT X.K Ps (dTest (dIn true de dq))) := pt_weak (pt_cmpR (op_notInA hu) ha hb hm) fun σ H Q h => by
  have h2 := lift_test h
  unfold tTest at h2 ⊢
  exact lift_in h2

/-! ### x, y, z = a, b, c; the last one may be a new list -/
def dPar3 (i j l : Nat) (da : DA) : DS := fun D σ => da σ fun ws => match ws with
  | [.dat d, .dat d', .dat d''] => D.nx (((σ.set i (some (.dat d))).set j (some (.dat d'))).set l (some (.dat d'')))
  | _ => False
theorem lift_par3 {i j l : Nat} {da : DA} {D : Ends} {σ : L2.St} {H : Hp} (h : liftS X.K Ps (dPar3 i j l da) D σ H) : tPar3 i j l (liftA X.K Ps da) D σ H := by
  obtain ⟨c, hs, as, σd, Dd, S, h, r⟩ := h
  refine ⟨c, hs, as, σd, _, S, h, fun ws vs H1 h1 s1 r1 => ?_⟩
  split at h1
  · cases r1 with
    | cons q1 q2 =>
      cases q2 with
      | cons q2 q3 =>
        cases q3 with
        | cons q3 q4 =>
          cases q4
          exact ⟨_, _, _, rfl, r.nx hs as _ H1 _ ((((S.step s1).set (.dat _) (fun _ z => by cases z) q1).set (.dat _) (fun _ z => by cases z) q2).set (.dat _) (fun _ z => by cases z) q3) h1⟩
  · exact h1.elim
theorem psd_par3 {i j l : Nat} {x y z : Str} {a b c : PySem.Expr} {da : DA} {px py pz pt : Pos} {kt k2 pt2} (hc : X.calm = true) (hN : X.N.Nodup) (hi : X.N[i]? = some x) (hj : X.N[j]? = some y) (hl : X.N[l]? = some z) (hij : i ≠ j) (hil : i ≠ l) (hjl : j ≠ l)
    (hx : X.env.scope.names.lookup x = some .local) (hy : X.env.scope.names.lookup y = some .local) (hz : X.env.scope.names.lookup z = some .local) (ha : PA X [a, b, c] (liftA X.K Ps da))
    (hw : swappedStores [.Tuple [.Name x px, .Name y py, .Name z pz] kt pt] (.Tuple [a, b, c] k2 pt2) X.env = pure (some [x, y, z]))
    (hs : swapsWithSole [.Tuple [.Name x px, .Name y py, .Name z pz] kt pt] (.Tuple [a, b, c] k2 pt2) pos.line X.env = pure false := by rfl) :
    PS X (.Assign [.Tuple [.Name x px, .Name y py, .Name z pz] kt pt] (.Tuple [a, b, c] k2 pt2) pos) (liftS X.K Ps (dPar3 i j l da)) := ps_weak (ps_par3 hc hN hi hj hl hij hil hjl hx hy hz ha hw hs) fun _ _ _ => lift_par3
def dPar3N (i j l : Nat) (da db : DE) (dl : DL) : DS := fun D σ => da σ fun x => db σ fun y => dl σ fun ds => D.nx (((σ.set i (some (.dat x))).set j (some (.dat y))).set l (some (.own ds)))
theorem lift_par3N {i j l : Nat} {da db : DE} {D : Ends} {σ : L2.St} {H : Hp} (h : liftS X.K Ps (dPar3N i j l da db dl) D σ H) : tPar3 i j l (tCons (lift X.K Ps da) (tCons (lift X.K Ps db) (tCons (liftN X.K Ps dl) tNil))) D σ H := by
  obtain ⟨c, hs, as, σd, Dd, S, h, r⟩ := h
  refine ⟨c, hs, as, σd, _, S, h, fun x v H1 h1 s1 r1 => ⟨c, hs, as, σd, _, S.step s1, h1, fun y w H2 h2 s2 r2 => ⟨c, hs, as, σd, _, (S.step s1).step s2, h2, fun ds p vs H3 h3 s3 hp h' r3 => ?_⟩⟩⟩
  have T := (((S.step s1).step s2).set (i := i) (.dat x) (fun _ z => by cases z) (dp_mono ((S.step s1).fr.wf.ex s2) r1)).set (i := j) (.dat y) (fun _ z => by cases z) r2
  exact ⟨_, _, _, rfl, r.nx hs (p :: as) _ H3 _ (T.new s3 hp h' r3) h3⟩
theorem psd_par3N {i j l : Nat} {x y z : Str} {a b c : PySem.Expr} {da db : DE} {px py pz pt : Pos} {kt k2 pt2} (hc : X.calm = true) (hN : X.N.Nodup) (hi : X.N[i]? = some x) (hj : X.N[j]? = some y) (hl : X.N[l]? = some z) (hij : i ≠ j) (hil : i ≠ l) (hjl : j ≠ l)
    (hx : X.env.scope.names.lookup x = some .local) (hy : X.env.scope.names.lookup y = some .local) (hz : X.env.scope.names.lookup z = some .local)
    (h1 : PE X a (lift X.K Ps da)) (h2 : PE X b (lift X.K Ps db)) (h3 : PE X c (liftN X.K Ps dl))
    (hw : swappedStores [.Tuple [.Name x px, .Name y py, .Name z pz] kt pt] (.Tuple [a, b, c] k2 pt2) X.env = pure (some [x, y, z]))
    (hs : swapsWithSole [.Tuple [.Name x px, .Name y py, .Name z pz] kt pt] (.Tuple [a, b, c] k2 pt2) pos.line X.env = pure false := by rfl)
    (e1 : starEach [a, b, c] X.env = (false, eval a X.env) :: starEach [b, c] X.env := by rfl) (e2 : starEach [b, c] X.env = (false, eval b X.env) :: starEach [c] X.env := by rfl) (e3 : starEach [c] X.env = (false, eval c X.env) :: starEach [] X.env := by rfl) :
    PS X (.Assign [.Tuple [.Name x px, .Name y py, .Name z pz] kt pt] (.Tuple [a, b, c] k2 pt2) pos) (liftS X.K Ps (dPar3N i j l da db dl)) := ps_weak (ps_par3 hc hN hi hj hl hij hil hjl hx hy hz (pa_cons h1 (pa_cons h2 (pa_cons h3 pa_nil e3) e2) e1) hw hs) fun _ _ _ => lift_par3N
def dParN (i j : Nat) (da : DE) (dl : DL) : DS := fun D σ => da σ fun x => dl σ fun ds => D.nx ((σ.set i (some (.dat x))).set j (some (.own ds)))
theorem lift_parN {i j : Nat} {da : DE} {D : Ends} {σ : L2.St} {H : Hp} (h : liftS X.K Ps (dParN i j da dl) D σ H) : tPar i j (tCons (lift X.K Ps da) (tCons (liftN X.K Ps dl) tNil)) D σ H := by
  obtain ⟨c, hs, as, σd, Dd, S, h, r⟩ := h
  refine ⟨c, hs, as, σd, _, S, h, fun x v H1 h1 s1 r1 => ⟨c, hs, as, σd, _, S.step s1, h1, fun ds p vs H3 h3 s3 hp h' r3 => ?_⟩⟩
  have T := (S.step s1).set (i := i) (.dat x) (fun _ z => by cases z) r1
  exact ⟨_, _, rfl, r.nx hs (p :: as) _ H3 _ (T.new s3 hp h' r3) h3⟩
theorem psd_parN {i j : Nat} {x y : Str} {a b : PySem.Expr} {da : DE} {px py pt : Pos} {kt k2 pt2} (hc : X.calm = true) (hN : X.N.Nodup) (hi : X.N[i]? = some x) (hj : X.N[j]? = some y) (hij : i ≠ j)
    (hx : X.env.scope.names.lookup x = some .local) (hy : X.env.scope.names.lookup y = some .local) (h1 : PE X a (lift X.K Ps da)) (h2 : PE X b (liftN X.K Ps dl))
    (hw : swappedStores [.Tuple [.Name x px, .Name y py] kt pt] (.Tuple [a, b] k2 pt2) X.env = pure (some [x, y]))
    (hs : swapsWithSole [.Tuple [.Name x px, .Name y py] kt pt] (.Tuple [a, b] k2 pt2) pos.line X.env = pure false := by rfl)
    (e1 : starEach [a, b] X.env = (false, eval a X.env) :: starEach [b] X.env := by rfl) (e2 : starEach [b] X.env = (false, eval b X.env) :: starEach [] X.env := by rfl) :
    PS X (.Assign [.Tuple [.Name x px, .Name y py] kt pt] (.Tuple [a, b] k2 pt2) pos) (liftS X.K Ps (dParN i j da dl)) := ps_weak (ps_par hc hN hi hj hij hx hy (pa_cons h1 (pa_cons h2 pa_nil e2) e1) hw hs) fun _ _ _ => lift_parN
theorem room65 {k : Nat} {A : Around} (r : Room k A) : A.units + 65 < cLine := by have := r.un; omega
end
end Dl
end
section
set_option Elab.async false
set_option linter.all false
set_option maxRecDepth 100000
set_option maxHeartbeats 4000000
/-! tuple * int, also tuple * 1 -/
namespace Dl
open PySem PySem.Spec PyProof.Rows L2 HbE Evl
theorem tuple_mul1 (l : Addr) (items : Array Value) (n : Nat) (dd : Option Addr) (sl : Array (Option Value)) (u : Tok) :
    Meets (Builtin.«tuple.__mul__» ⟨[.ref l, .int 1 u], []⟩) (fun _ R s => s.heap.get? l = some { cls := .type "tuple", dict := dd, data := .seq items n, slots := sl } ∧ R (.ok (.ret (Value.ref l))) s) :=
  .of_wp fun prog w A R s h => by
    obtain ⟨hp, g, d, tk, os⟩ := s
    obtain ⟨hl, h⟩ := h
    have f1 := AutoSeq1.idx_int
    have c0 : (decide ((1 : Int) < -(2 ^ 63)) || decide ((1 : Int) ≥ 2 ^ 63)) = false := by decide
    have c1 : (items.isEmpty || (1 : Int) == 1) = true := by simp
    wp_walk using wpAny_loadPart' hl
    repeat (first
      | (refine wpAny_ite_false (decide_eq_false (by rw [c0]; exact Bool.false_ne_true)) ?_; wp_walk using wpAny_loadPart' hl)
      | (refine wpAny_ite_true (decide_eq_true c1) ?_; wp_walk using wpAny_loadPart' hl))
    exact ⟨_, rfl, h⟩

def rRepA (K : PySem.W.Frag) : R2 := fun x y H Q => rRepT K x y H Q ∨ ∃ l xs, x = .ref l ∧ y = .int 1 ∧ SqT K H l xs ∧ Q (.ref l) H
section
variable {X : Cx}
theorem op_repA : OpR X (binaryOp .Mult) (rRepA X.K) := by
  intro pins s σ H x y v u Q I rx ry h
  rcases h with h | ⟨l, xs, rfl, rfl, hT, q⟩
  · exact op_repT pins s σ H x y v u Q I rx ry h
  cases rx
  obtain ⟨t, rfl⟩ := ry
  obtain ⟨its, r, ⟨⟨cls, dd, data, sl⟩, ho, hc, n, hd⟩, hs⟩ := I.tuple hT
  simp only at hc hd
  subst hc hd
  refine wpAny_binaryOp_repeat_ref (T := "tuple") (U := "int") (by decide) ⟨_, ho, rfl⟩ (fun s' => typeIs_int s' 1 t) noFill_tuple_mul F.fills_int_mul F.slot_int_rmul repeat_tuple F.slot_int_index.lookup
    (call_meets F.slot_int_rmul (typeIs_int s 1 t) F.entry_int_rmul (F.args_int_rmul_2 _ _) (int_rmul_tuple 1 t l its.toArray n dd sl)
      ⟨ho, rfl, ⟨_, ho, rfl⟩, call_meets F.slot_tuple_mul ⟨_, ho, rfl⟩ F.entry_tuple_mul (F.args_tuple_mul_2 _ _) (tuple_mul1 l its.toArray n dd sl t) ⟨ho, ?_⟩⟩)
  exact ⟨.ref l, _, I, rfl, q⟩
end
section
variable {K : PySem.W.Frag} {Ps : List Addr}
def fRepA : PyData → PyData → (PyData → Prop) → Prop := fun x y Q => match x, y with
  | .tuple ds, .int k => ds ≠ [] ∧ 1 ≤ k ∧ k ≤ 1000 ∧ ds.length ≤ 1000 ∧ Q (.tuple (List.replicate k.toNat ds).flatten)
  | _, _ => False
theorem op2_repA : Op2 K Ps (rRepA K) fRepA := by
  intro M hs H v w x y Qd Q wf hx hy h k
  unfold fRepA at h
  split at h
  · rename_i ds i
    obtain ⟨h1, h2, h3, h4, hq⟩ := h
    by_cases e : i = 1
    · subst e
      cases hy
      have e1 : (List.replicate (1 : Int).toNat ds).flatten = ds := by simp
      rw [e1] at hq
      have hx0 := hx
      cases hx with
      | tup x1 x2 => exact .inr ⟨_, _, rfl, rfl, ex_t msk_ex x1, k _ _ _ hq Step.refl hx0⟩
    · exact .inl (op2_repT M hs H v w _ _ Qd Q wf hx hy ⟨h1, by omega, h3, h4, hq⟩ k)
  · exact h.elim
end
end Dl
end
section
set_option Elab.async false
set_option linter.all false
set_option maxRecDepth 100000
set_option maxHeartbeats 1000000
/-! Defs over data as functions: a result, an exception, or nothing known. -/
namespace Dl
open PySem PySem.Spec PyProof.Rows L2 HbE Evl RZ Gx
structure Xn where
  cls : String
  arg : Option PyData
inductive Rs (α : Type) where
  | ok (a : α)
  | ex (x : Xn)
  | no
namespace Rs
def bind {α β : Type} (r : Rs α) (f : α → Rs β) : Rs β := match r with
  | .ok a => f a
  | .ex x => .ex x
  | .no => .no
def ofO {α : Type} : Option α → Rs α
  | some a => .ok a
  | none => .no
end Rs
@[simp] theorem bind_ok {α β : Type} (a : α) (f : α → Rs β) : Rs.bind (.ok a) f = f a := rfl
@[simp] theorem bind_ex {α β : Type} (x : Xn) (f : α → Rs β) : Rs.bind (.ex x) f = .ex x := rfl
@[simp] theorem bind_no {α β : Type} (f : α → Rs β) : Rs.bind .no f = .no := rfl
@[simp] theorem ofO_some {α : Type} (a : α) : Rs.ofO (some a) = .ok a := rfl
@[simp] theorem ofO_none {α : Type} : Rs.ofO (none : Option α) = .no := rfl
/-- what holds of a result, E of an exception -/
def Rs.Sat {α : Type} (E : Xn → Prop) (r : Rs α) (Q : α → Prop) : Prop := match r with
  | .ok a => Q a
  | .ex x => E x
  | .no => False
section
variable {α β : Type} {E : Xn → Prop}
theorem Sat.bind {r : Rs α} {f : α → Rs β} {Q : β → Prop} (h : (r.bind f).Sat E Q) : r.Sat E fun a => (f a).Sat E Q := by
  cases r <;> exact h
theorem Sat.mono {r : Rs α} {Q Q' : α → Prop} (h : r.Sat E Q) (k : ∀ a, Q a → Q' a) : r.Sat E Q' := by
  cases r with
  | ok a => exact k a h
  | ex x => exact h
  | no => exact h
theorem Sat.ofO {o : Option α} {Q : α → Prop} (h : (Rs.ofO o).Sat E Q) : ∃ a, o = some a ∧ Q a := by
  cases o with
  | some a => exact ⟨a, rfl, h⟩
  | none => exact h.elim
end
abbrev FE := Sd → Rs PyData
abbrev FT := Sd → Rs Bool
abbrev FA := Sd → Rs (List PyData)
abbrev FQ := Sd → Rs (Bool × List PyData)
abbrev FO := Sd → Rs (Option Int)
abbrev FG := PyData → Sd → Rs Sd
abbrev FGs := List PyData → Sd → Rs Sd
inductive Fw where
  | nx (σ : Sd)
  | rt (d : PyData)
  | bk (σ : Sd)
  | ct (σ : Sd)
abbrev FS := Sd → Rs Fw
abbrev FF := List PyData → Rs PyData
def ofE (E : Xn → Prop) (f : FE) : DE := fun σ Q => (f σ).Sat E Q
def ofT (E : Xn → Prop) (f : FT) : DT := fun σ Q => (f σ).Sat E Q
def ofA (E : Xn → Prop) (f : FA) : DA := fun σ Q => (f σ).Sat E fun ds => Q (ds.map WD.dat)
def ofQ (E : Xn → Prop) (f : FQ) : DQ := fun σ Q => (f σ).Sat E fun p => Q p.1 p.2
def ofL (E : Xn → Prop) (f : FA) : DL := fun σ Q => (f σ).Sat E Q
def ofI (E : Xn → Prop) (f : FA) : DI := fun σ Q => (f σ).Sat E Q
def ofO (E : Xn → Prop) (f : FO) : DO := fun σ Q => (f σ).Sat E Q
def ofG (E : Xn → Prop) (f : FG) : DG := fun d σ Q => (f d σ).Sat E Q
def ofGs (E : Xn → Prop) (f : FGs) : DGs := fun d σ Q => (f d σ).Sat E Q
def ED.go (D : ED) : Fw → Prop
  | .nx σ => D.nx σ
  | .rt d => D.rt d
  | .bk σ => D.bk σ
  | .ct σ => D.ct σ
def ofS (E : Xn → Prop) (f : FS) : DS := fun D σ => (f σ).Sat E D.go
def ofF (E : Xn → Prop) (f : FF) : DSp := fun ws Q => ∃ ds, ws = ds.map WD.dat ∧ (f ds).Sat E Q
def LeE (a b : DE) : Prop := ∀ σ Q, a σ Q → b σ Q
def LeT (a b : DT) : Prop := ∀ σ Q, a σ Q → b σ Q
def LeA (a b : DA) : Prop := ∀ σ Q, a σ Q → b σ Q
def LeQ (a b : DQ) : Prop := ∀ σ Q, a σ Q → b σ Q
def LeL (a b : DL) : Prop := ∀ σ Q, a σ Q → b σ Q
def LeI (a b : DI) : Prop := ∀ σ Q, a σ Q → b σ Q
def LeO (a b : DO) : Prop := ∀ σ Q, a σ Q → b σ Q
def LeG (a b : DG) : Prop := ∀ d σ Q, a d σ Q → b d σ Q
def LeGs (a b : DGs) : Prop := ∀ d σ Q, a d σ Q → b d σ Q
def LeS (a b : DS) : Prop := ∀ D σ, a D σ → b D σ
section
variable {E : Xn → Prop} {fa fb fc : FE} {da db dc : DE} {ft fu : FT} {dt du : DT} {aa : FA} {la ll : FA} {ad : DA} {fq : FQ} {dq : DQ} {dl : DL} {di : DI} {fo fo' : FO} {dO dO' : DO} {fg : FG} {dg : DG} {s u : FS} {ds du' : DS}
/-! ### expressions -/
@[simp] def fVar (i : Nat) : FE := fun σ => match σ[i]? with
  | some (some (.dat d)) => .ok d
  | _ => .no
theorem le_var {i : Nat} : LeE (ofE E (fVar i)) (dVar i) := fun σ Q h => by
  unfold ofE fVar at h
  unfold dVar
  split at h
  · rename_i q; (try rw [q]); exact h
  · exact h.elim
@[simp] def fC (d : PyData) : FE := fun _ => .ok d
theorem le_c {d : PyData} : LeE (ofE E (fC d)) (dC d) := fun σ Q h => h
@[simp] def fOp (g : PyData → PyData → Option PyData) (fa fb : FE) : FE := fun σ => (fa σ).bind fun x => (fb σ).bind fun y => Rs.ofO (g x y)
def LeOp (g : PyData → PyData → Option PyData) (F : PyData → PyData → (PyData → Prop) → Prop) : Prop := ∀ x y d (Q : PyData → Prop), g x y = some d → Q d → F x y Q
theorem le_op {g : PyData → PyData → Option PyData} {F : PyData → PyData → (PyData → Prop) → Prop} (hg : LeOp g F) (ha : LeE (ofE E fa) da) (hb : LeE (ofE E fb) db) : LeE (ofE E (fOp g fa fb)) (dOp F da db) := fun σ Q h =>
  ha σ _ (Sat.mono (Sat.bind h) fun x h => hb σ _ (Sat.mono (Sat.bind h) fun y h => by
    obtain ⟨d, e, q⟩ := Sat.ofO h
    exact hg x y d Q e q))
def gI0 (k : Int → Int → PyData) : PyData → PyData → Option PyData := fun x y => match x, y with
  | .int i, .int j => some (k i j)
  | _, _ => none
@[simp] theorem gI0_int (k : Int → Int → PyData) (i j : Int) : gI0 k (.int i) (.int j) = some (k i j) := rfl
def gI (c : Int → Int → Bool) (k : Int → Int → PyData) : PyData → PyData → Option PyData := fun x y => match x, y with
  | .int i, .int j => if c i j = true then some (k i j) else none
  | _, _ => none
@[simp] theorem gI_int (c : Int → Int → Bool) (k : Int → Int → PyData) (i j : Int) : gI c k (.int i) (.int j) = if c i j = true then some (k i j) else none := rfl
theorem leop_I0 {k : Int → Int → PyData} : LeOp (gI0 k) (fI0 k) := fun x y d Q e q => by
  unfold gI0 at e
  split at e
  · cases e; exact q
  · cases e
theorem leop_I {C : Int → Int → Prop} {c : Int → Int → Bool} {k : Int → Int → PyData} (hc : ∀ i j, c i j = true → C i j) : LeOp (gI c k) (fI C k) := fun x y d Q e q => by
  unfold gI at e
  split at e
  · split at e
    · rename_i h; cases e; exact ⟨hc _ _ h, q⟩
    · cases e
  · cases e
def cPos : Int → Int → Bool := fun _ j => decide (0 < j)
def cNn : Int → Int → Bool := fun _ j => decide (0 ≤ j)
/-! Bounds are told by Nat.ble, the letters first: so the kernel never counts down a bound. -/
def cMul : Int → Int → Bool := fun i j => Nat.ble (i.natAbs.log2 + j.natAbs.log2) 99999999
def cDiv : Int → Int → Bool := fun _ j => decide (0 < j) && Nat.ble j.natAbs.log2 8999
def cShl : Int → Int → Bool := fun i j => decide (0 ≤ j) && Nat.ble (i.natAbs.log2 + j.toNat) 99999999
def cPow : Int → Int → Bool := fun i j => decide (0 ≤ j) && Nat.ble ((i.natAbs.log2 + 1) * j.toNat) 100000000
theorem bits_le (x : Int) : Builtin.Int.intBits x ≤ x.natAbs.log2 + 1 := by
  unfold Builtin.Int.intBits
  split <;> omega
theorem cMul_ok (i j : Int) (h : cMul i j = true) : CMulE i j := by
  have h : i.natAbs.log2 + j.natAbs.log2 ≤ 99999999 := Nat.le_of_ble_eq_true h
  have h1 := bits_le i
  have h2 := bits_le j
  refine .inr ?_
  unfold CMulX
  omega
theorem cDiv_ok (i j : Int) (h : cDiv i j = true) : CDivW i j := by
  unfold cDiv at h
  rw [Bool.and_eq_true] at h
  have h2 := Nat.le_of_ble_eq_true h.2
  exact ⟨of_decide_eq_true h.1, by omega⟩
theorem cShl_ok (i j : Int) (h : cShl i j = true) : CShl i j := by
  unfold cShl at h
  rw [Bool.and_eq_true] at h
  have h2 := Nat.le_of_ble_eq_true h.2
  have h1 := bits_le i
  have h0 : 0 ≤ j := of_decide_eq_true h.1
  refine ⟨h0, ?_⟩
  have : (2 : Int) ^ 27 = 134217728 := by decide
  omega
theorem cPow_ok (i j : Int) (h : cPow i j = true) : CPowB i j := by
  unfold cPow at h
  rw [Bool.and_eq_true] at h
  have h3 := Nat.le_of_ble_eq_true h.2
  have h1 := bits_le i
  have h0 : 0 ≤ j := of_decide_eq_true h.1
  refine ⟨h0, ?_⟩
  have e : (2 : Int) ^ 27 = 134217728 := by decide
  have e2 : ((j.toNat : Nat) : Int) = j := Int.toNat_of_nonneg h0
  have h4 : Builtin.Int.intBits i * j.toNat ≤ (i.natAbs.log2 + 1) * j.toNat := Nat.mul_le_mul_right _ h1
  have h5 : ((Builtin.Int.intBits i * j.toNat : Nat) : Int) = (Builtin.Int.intBits i : Int) * j := by rw [Int.natCast_mul, e2]
  omega
theorem cPos_ok (i j : Int) (h : cPos i j = true) : 0 < j := of_decide_eq_true h
theorem cNn_ok (i j : Int) (h : cNn i j = true) : 0 ≤ j := of_decide_eq_true h
def gEq (neg : Bool) : PyData → PyData → Option PyData := fun x y => if (SeqAt.shaped x && SeqAt.shaped y) = true then some (.bool (if neg then !PyData.eqv x y else PyData.eqv x y)) else none
theorem leop_eq {neg : Bool} : LeOp (gEq neg) (fEq neg) := fun x y d Q e q => by
  unfold gEq at e
  split at e
  · rename_i h
    cases e
    rw [Bool.and_eq_true] at h
    exact ⟨h.1, h.2, q⟩
  · cases e
def gCatT : PyData → PyData → Option PyData := fun x y => match x, y with
  | .tuple xs, .tuple ys => if Nat.ble (xs.length + ys.length) 100000 = true then some (.tuple (xs ++ ys)) else none
  | _, _ => none
@[simp] theorem gCatT_t (xs ys : List PyData) : gCatT (.tuple xs) (.tuple ys) = if Nat.ble (xs.length + ys.length) 100000 = true then some (.tuple (xs ++ ys)) else none := rfl
theorem leop_catT : LeOp gCatT fCatT := fun x y d Q e q => by
  unfold gCatT at e
  split at e
  · split at e
    · rename_i h; cases e; exact ⟨Nat.le_of_ble_eq_true h, q⟩
    · cases e
  · cases e
def gRepT : PyData → PyData → Option PyData := fun x y => match x, y with
  | .tuple ds, .int k => if (!ds.isEmpty && decide (2 ≤ k) && Nat.ble k.toNat 1000 && Nat.ble ds.length 1000) = true then some (.tuple (List.replicate k.toNat ds).flatten) else none
  | _, _ => none
@[simp] theorem gRepT_t (ds : List PyData) (k : Int) : gRepT (.tuple ds) (.int k) = if (!ds.isEmpty && decide (2 ≤ k) && Nat.ble k.toNat 1000 && Nat.ble ds.length 1000) = true then some (.tuple (List.replicate k.toNat ds).flatten) else none := rfl
theorem leop_repT : LeOp gRepT fRepT := fun x y d Q e q => by
  unfold gRepT at e
  split at e
  · split at e
    · rename_i h
      cases e
      simp only [Bool.and_eq_true, Bool.not_eq_true', decide_eq_true_eq] at h
      have b1 := Nat.le_of_ble_eq_true h.1.2
      have b2 := Nat.le_of_ble_eq_true h.2
      refine ⟨fun z => ?_, h.1.1.2, by omega, b2, q⟩
      have := h.1.1.1
      rw [z] at this
      cases this
    · cases e
  · cases e
/-- tests -/
def asB : PyData → Rs Bool
  | .bool b => .ok b
  | _ => .no
@[simp] theorem asB_bool (b : Bool) : asB (.bool b) = .ok b := rfl
@[simp] theorem asB_int (b : Int) : asB (.int b) = .no := rfl
@[simp] theorem asB_none : asB .none = .no := rfl
theorem Sat.asB {d : PyData} {Q : Bool → Prop} (h : (asB d).Sat E Q) : ∃ b, d = .bool b ∧ Q b := by
  unfold Dl.asB at h
  split at h
  · exact ⟨_, rfl, h⟩
  · exact h.elim
@[simp] def fTest (fa : FE) : FT := fun σ => (fa σ).bind asB
theorem le_test (ha : LeE (ofE E fa) da) : LeT (ofT E (fTest fa)) (dTest da) := fun σ Q h => ha σ _ (Sat.mono (Sat.bind h) fun d k => by
  obtain ⟨b, rfl, q⟩ := Sat.asB k
  exact q)
@[simp] def fNot (ft : FT) : FT := fun σ => (ft σ).bind fun b => .ok (!b)
theorem le_notT (h : LeT (ofT E ft) dt) : LeT (ofT E (fNot ft)) (dNot dt) := fun σ Q k => h σ _ (Sat.mono (Sat.bind k) fun b k => k)
@[simp] def fAnd (ft fu : FT) : FT := fun σ => (ft σ).bind fun b => if b = true then fu σ else .ok false
@[simp] def fOr (ft fu : FT) : FT := fun σ => (ft σ).bind fun b => if b = true then .ok true else fu σ
theorem le_andT (h : LeT (ofT E ft) dt) (h' : LeT (ofT E fu) du) : LeT (ofT E (fAnd ft fu)) (dAnd dt du) := fun σ Q k => h σ _ (Sat.mono (Sat.bind k) fun b k => by
  cases b with
  | true => exact h' σ Q k
  | false => exact k)
theorem le_orT (h : LeT (ofT E ft) dt) (h' : LeT (ofT E fu) du) : LeT (ofT E (fOr ft fu)) (dOr dt du) := fun σ Q k => h σ _ (Sat.mono (Sat.bind k) fun b k => by
  cases b with
  | true => exact k
  | false => exact h' σ Q k)
@[simp] def fYes : FT := fun _ => .ok true
theorem le_yes : LeT (ofT E fYes) dYes := fun σ Q k => k
@[simp] def fAndV (fa fb : FE) : FE := fun σ => (fa σ).bind fun x => (asB x).bind fun b => if b = true then fb σ else .ok (.bool false)
@[simp] def fOrV (fa fb : FE) : FE := fun σ => (fa σ).bind fun x => (asB x).bind fun b => if b = true then .ok (.bool true) else fb σ
theorem le_andV (ha : LeE (ofE E fa) da) (hb : LeE (ofE E fb) db) : LeE (ofE E (fAndV fa fb)) (dAndV da db) := fun σ Q h => ha σ _ (Sat.mono (Sat.bind h) fun x k => by
  obtain ⟨b, rfl, q⟩ := Sat.asB (Sat.bind k)
  cases b with
  | true => exact hb σ Q q
  | false => exact q)
theorem le_orV (ha : LeE (ofE E fa) da) (hb : LeE (ofE E fb) db) : LeE (ofE E (fOrV fa fb)) (dOrV da db) := fun σ Q h => ha σ _ (Sat.mono (Sat.bind h) fun x k => by
  obtain ⟨b, rfl, q⟩ := Sat.asB (Sat.bind k)
  cases b with
  | true => exact q
  | false => exact hb σ Q q)
@[simp] def fNotV (fa : FE) : FE := fun σ => (fa σ).bind fun x => (asB x).bind fun b => .ok (.bool (!b))
theorem le_notV (ha : LeE (ofE E fa) da) : LeE (ofE E (fNotV fa)) (dNotV da) := fun σ Q h => ha σ _ (Sat.mono (Sat.bind h) fun x k => by
  obtain ⟨b, rfl, q⟩ := Sat.asB (Sat.bind k)
  exact q)
@[simp] def fIfE (ft : FT) (fa fb : FE) : FE := fun σ => (ft σ).bind fun b => if b = true then fa σ else fb σ
theorem le_ifE (h : LeT (ofT E ft) dt) (ha : LeE (ofE E fa) da) (hb : LeE (ofE E fb) db) : LeE (ofE E (fIfE ft fa fb)) (dIfE dt da db) := fun σ Q k => h σ _ (Sat.mono (Sat.bind k) fun b k => by
  cases b with
  | true => exact ha σ Q k
  | false => exact hb σ Q k)
def asI : PyData → Rs Int
  | .int i => .ok i
  | _ => .no
@[simp] theorem asI_int (b : Int) : asI (.int b) = .ok b := rfl
theorem Sat.asI {d : PyData} {Q : Int → Prop} (h : (asI d).Sat E Q) : ∃ i, d = .int i ∧ Q i := by
  unfold Dl.asI at h
  split at h
  · exact ⟨_, rfl, h⟩
  · exact h.elim
@[simp] def fNeg (fa : FE) : FE := fun σ => (fa σ).bind fun x => (asI x).bind fun i => .ok (.int (-i))
theorem le_neg (ha : LeE (ofE E fa) da) : LeE (ofE E (fNeg fa)) (dNeg da) := fun σ Q h => ha σ _ (Sat.mono (Sat.bind h) fun x h => by
  obtain ⟨i, rfl, h⟩ := Sat.asI (Sat.bind h)
  exact h)
@[simp] def fChain (g g' : PyData → PyData → Option PyData) (fa fb fc : FE) : FE := fun σ => (fa σ).bind fun x => (fb σ).bind fun y => (Rs.ofO (g x y)).bind fun z => (asB z).bind fun k => if k = true then (fc σ).bind fun w => Rs.ofO (g' y w) else .ok (.bool false)
theorem le_chain {g g' : PyData → PyData → Option PyData} {F F' : PyData → PyData → (PyData → Prop) → Prop} (hg : LeOp g F) (hg' : LeOp g' F') (ha : LeE (ofE E fa) da) (hb : LeE (ofE E fb) db) (hc : LeE (ofE E fc) dc) :
    LeE (ofE E (fChain g g' fa fb fc)) (dChain F F' da db dc) := fun σ Q h => ha σ _ (Sat.mono (Sat.bind h) fun x h => hb σ _ (Sat.mono (Sat.bind h) fun y h2 => by
  obtain ⟨z, e, h3⟩ := Sat.ofO (Sat.bind h2)
  refine hg x y z _ e ?_
  obtain ⟨k, rfl, q⟩ := Sat.asB (Sat.bind h3)
  cases k with
  | true => exact hc σ _ (Sat.mono (Sat.bind q) fun w h => by
      obtain ⟨d, e, q⟩ := Sat.ofO h
      exact hg' y w d Q e q)
  | false => exact q))
/-! ### sequences -/
@[simp] def fVarQ (i : Nat) : FQ := fun σ => match σ[i]? with
  | some (some (.dat (.list ds))) => .ok (true, ds)
  | some (some (.dat (.tuple ds))) => .ok (false, ds)
  | some (some (.own ds)) => .ok (true, ds)
  | _ => .no
theorem le_varQ {i : Nat} : LeQ (ofQ E (fVarQ i)) (dVarQ i) := fun σ Q h => by
  unfold ofQ fVarQ at h
  unfold dVarQ
  split at h
  · rename_i q; (try rw [q]); exact h
  · rename_i q; (try rw [q]); exact h
  · rename_i q; (try rw [q]); exact h
  · exact h.elim
def asQ : PyData → Rs (Bool × List PyData)
  | .list ds => .ok (true, ds)
  | .tuple ds => .ok (false, ds)
  | _ => .no
@[simp] theorem asQ_list (ds : List PyData) : asQ (.list ds) = .ok (true, ds) := rfl
@[simp] theorem asQ_tuple (ds : List PyData) : asQ (.tuple ds) = .ok (false, ds) := rfl
@[simp] def fSeqE (fa : FE) : FQ := fun σ => (fa σ).bind asQ
theorem le_seqE (ha : LeE (ofE E fa) da) : LeQ (ofQ E (fSeqE fa)) (dSeqE da) := fun σ Q h => ha σ _ (Sat.mono (Sat.bind h) fun d h => by
  unfold asQ at h
  split at h
  · exact h
  · exact h
  · exact h.elim)
@[simp] def fIx (fq : FQ) (fi : FE) : FE := fun σ => (fq σ).bind fun p => (fi σ).bind fun x => (asI x).bind fun i => Rs.ofO (atI p.2 i)
theorem le_ix (h : LeQ (ofQ E fq) dq) (hi : LeE (ofE E fa) da) : LeE (ofE E (fIx fq fa)) (dIx dq da) := fun σ Q k => h σ _ (Sat.mono (Sat.bind k) fun p k => hi σ _ (Sat.mono (Sat.bind k) fun x k => by
  obtain ⟨i, rfl, k⟩ := Sat.asI (Sat.bind k)
  obtain ⟨d, e, q⟩ := Sat.ofO k
  show match atI p.2 i with
    | some d => Q d
    | none => False
  rw [e]
  exact q))
@[simp] def fOpQ (g : Bool → List PyData → Option PyData) (fq : FQ) : FE := fun σ => (fq σ).bind fun p => Rs.ofO (g p.1 p.2)
def LeOpQ (g : Bool → List PyData → Option PyData) (F : Bool → List PyData → (PyData → Prop) → Prop) : Prop := ∀ b ds d (Q : PyData → Prop), g b ds = some d → Q d → F b ds Q
theorem le_opQ {g : Bool → List PyData → Option PyData} {F : Bool → List PyData → (PyData → Prop) → Prop} (hg : LeOpQ g F) (h : LeQ (ofQ E fq) dq) : LeE (ofE E (fOpQ g fq)) (dOpQ F dq) := fun σ Q k => h σ _ (Sat.mono (Sat.bind k) fun p k => by
  obtain ⟨d, e, q⟩ := Sat.ofO k
  exact hg _ _ d Q e q)
@[simp] def gLen : Bool → List PyData → Option PyData := fun _ ds => some (.int ds.length)
theorem leq_len : LeOpQ gLen fLen := fun b ds d Q e q => by cases e; exact q
@[simp] def gTuple : Bool → List PyData → Option PyData := fun _ ds => some (.tuple ds)
theorem leq_tuple : LeOpQ gTuple fTuple := fun b ds d Q e q => by cases e; exact q
@[simp] def gSum : Bool → List PyData → Option PyData := fun _ ds => (intsD ds).map fun ns => .int ns.sum
theorem leq_sum : LeOpQ gSum fSumS := fun b ds d Q e q => by
  unfold gSum at e
  unfold fSumS
  cases h : intsD ds with
  | none => rw [h] at e; cases e
  | some ns => rw [h] at e; cases e; exact q
def gMin : Bool → List PyData → Option PyData := fun _ ds => match intsD ds with
  | some (n :: ns) => some (.int (ns.foldl min n))
  | _ => none
theorem leq_min : LeOpQ gMin fMinS := fun b ds d Q e q => by
  unfold gMin at e
  unfold fMinS
  split at e
  · rename_i h; (try rw [h]); cases e; exact q
  · cases e
def gMax : Bool → List PyData → Option PyData := fun _ ds => match intsD ds with
  | some (n :: ns) => some (.int (ns.foldl max n))
  | _ => none
theorem leq_max : LeOpQ gMax fMaxS := fun b ds d Q e q => by
  unfold gMax at e
  unfold fMaxS
  split at e
  · rename_i h; (try rw [h]); cases e; exact q
  · cases e
/-! ### arguments, displays -/
@[simp] def fNil : FA := fun _ => .ok []
@[simp] def fCons (fa : FE) (aa : FA) : FA := fun σ => (fa σ).bind fun d => (aa σ).bind fun ds => .ok (d :: ds)
theorem le_nil : LeA (ofA E fNil) dNil := fun σ Q h => h
theorem le_cons (ha : LeE (ofE E fa) da) (hr : LeA (ofA E aa) ad) : LeA (ofA E (fCons fa aa)) (dCons (dD da) ad) := fun σ Q h => ha σ _ (Sat.mono (Sat.bind h) fun d h => hr σ _ (Sat.mono (Sat.bind h) fun ds h => h))
@[simp] def fCall (F : FF) (aa : FA) : FE := fun σ => (aa σ).bind F
theorem le_call {F : FF} (ha : LeA (ofA E aa) ad) : LeE (ofE E (fCall F aa)) (dCall (ofF E F) ad) := fun σ Q h => ha σ _ (Sat.mono (Sat.bind h) fun ds h => ⟨ds, rfl, h⟩)
theorem dats_map (ds : List PyData) : dats (ds.map WD.dat) = some ds := by
  induction ds with
  | nil => rfl
  | cons d ds ih => simp [dats, ih]
theorem Sat.dats {r : Rs (List PyData)} {Q : List PyData → Prop} (h : r.Sat E Q) : r.Sat E fun ds => match dats (ds.map WD.dat) with
  | some ds => Q ds
  | none => False := Sat.mono h fun ds q => by rw [dats_map]; exact q
def lim (n : Nat) : Bool := Nat.ble n 100000
@[simp] def fTup (aa : FA) : FE := fun σ => (aa σ).bind fun ds => if lim ds.length = true then .ok (.tuple ds) else .no
theorem le_tup (ha : LeA (ofA E aa) ad) : LeE (ofE E (fTup aa)) (dTup ad) := fun σ Q h => ha σ _ (Sat.mono (Sat.dats (Q := fun ds => ds.length ≤ 100000 ∧ Q (.tuple ds)) (Sat.mono (Sat.bind h) fun ds h => by
  by_cases e : lim ds.length = true
  · rw [if_pos e] at h
    exact ⟨Nat.le_of_ble_eq_true e, h⟩
  · rw [if_neg e] at h
    exact h.elim)) fun ds q => q)
@[simp] def fLst (aa : FA) : FA := fun σ => (aa σ).bind fun ds => if lim ds.length = true then .ok ds else .no
theorem le_lst (ha : LeA (ofA E aa) ad) : LeL (ofL E (fLst aa)) (dLst ad) := fun σ Q h => ha σ _ (Sat.mono (Sat.dats (Q := fun ds => ds.length ≤ 100000 ∧ Q ds) (Sat.mono (Sat.bind h) fun ds h => by
  by_cases e : lim ds.length = true
  · rw [if_pos e] at h
    exact ⟨Nat.le_of_ble_eq_true e, h⟩
  · rw [if_neg e] at h
    exact h.elim)) fun ds q => q)
@[simp] def fL (la : FA) : FE := fun σ => (la σ).bind fun ds => .ok (.list ds)
theorem le_L (h : LeL (ofL E la) dl) : LeE (ofE E (fL la)) (dL dl) := fun σ Q k => h σ _ (Sat.mono (Sat.bind k) fun ds k => k)
@[simp] def fOpN (g : List PyData → Option PyData) (aa : FA) : FE := fun σ => (aa σ).bind fun ds => Rs.ofO (g ds)
def LeOpN (g : List PyData → Option PyData) (F : List PyData → (PyData → Prop) → Prop) : Prop := ∀ ds d (Q : PyData → Prop), g ds = some d → Q d → F ds Q
theorem le_opN {g : List PyData → Option PyData} {F : List PyData → (PyData → Prop) → Prop} (hg : LeOpN g F) (ha : LeA (ofA E aa) ad) : LeE (ofE E (fOpN g aa)) (dOpN F ad) := fun σ Q h =>
  ha σ _ (Sat.mono (Sat.dats (Q := fun ds => F ds Q) (Sat.mono (Sat.bind h) fun ds h => by
    obtain ⟨d, e, q⟩ := Sat.ofO h
    exact hg ds d Q e q)) fun ds q => q)
def gAbs : List PyData → Option PyData
  | [.int i] => some (.int (if i < 0 then -i else i))
  | _ => none
@[simp] theorem gAbs_int (i : Int) : gAbs [.int i] = some (.int (if i < 0 then -i else i)) := rfl
theorem len_abs : LeOpN gAbs fAbs := fun ds d Q e q => by
  unfold gAbs at e
  split at e
  · cases e; exact q
  · cases e
def gInt : List PyData → Option PyData
  | [.int i] => some (.int i)
  | [.bool b] => some (.int (if b then 1 else 0))
  | _ => none
@[simp] theorem gInt_int (i : Int) : gInt [.int i] = some (.int i) := rfl
@[simp] theorem gInt_bool (b : Bool) : gInt [.bool b] = some (.int (if b then 1 else 0)) := rfl
theorem len_int : LeOpN gInt fInt := fun ds d Q e q => by
  unfold gInt at e
  split at e
  · cases e; exact q
  · cases e; exact q
  · cases e
def gMax2 : List PyData → Option PyData
  | [.int i, .int j] => some (.int (if j > i then j else i))
  | _ => none
@[simp] theorem gMax2_int (i j : Int) : gMax2 [.int i, .int j] = some (.int (if j > i then j else i)) := rfl
theorem len_max2 : LeOpN gMax2 fMax2 := fun ds d Q e q => by
  unfold gMax2 at e
  split at e
  · cases e; exact q
  · cases e
def gMin2 : List PyData → Option PyData
  | [.int i, .int j] => some (.int (if j < i then j else i))
  | _ => none
@[simp] theorem gMin2_int (i j : Int) : gMin2 [.int i, .int j] = some (.int (if j < i then j else i)) := rfl
theorem len_min2 : LeOpN gMin2 fMin2 := fun ds d Q e q => by
  unfold gMin2 at e
  split at e
  · cases e; exact q
  · cases e
def gGcd : List PyData → Option PyData
  | [.int i, .int j] => some (.int ((Nat.gcd i.natAbs j.natAbs : Nat) : Int))
  | _ => none
@[simp] theorem gGcd_int (i j : Int) : gGcd [.int i, .int j] = some (.int ((Nat.gcd i.natAbs j.natAbs : Nat) : Int)) := rfl
theorem len_gcd : LeOpN gGcd fGcd := fun ds d Q e q => by
  unfold gGcd at e
  split at e
  · cases e; exact q
  · cases e
@[simp] def fIsi (T : String) (fa : FE) : FE := fun σ => (fa σ).bind fun d => .ok (.bool (isB (tyD d) T))
theorem le_isi {T : String} (ha : LeE (ofE E fa) da) : LeE (ofE E (fIsi T fa)) (dIsi T da) := fun σ Q h => ha σ _ (Sat.mono (Sat.bind h) fun d h => h)
@[simp] def fRep (la : FA) (fa : FE) : FA := fun σ => (la σ).bind fun ds => (fa σ).bind fun x => (asI x).bind fun k => if (Nat.ble k.natAbs 1000000 && lim (ds.length * k.toNat)) = true then .ok (List.replicate k.toNat ds).flatten else .no
theorem le_rep (h : LeL (ofL E la) dl) (ha : LeE (ofE E fa) da) : LeL (ofL E (fRep la fa)) (dRep dl da) := fun σ Q k => h σ _ (Sat.mono (Sat.bind k) fun ds k => ha σ _ (Sat.mono (Sat.bind k) fun x k2 => by
  obtain ⟨n, rfl, k⟩ := Sat.asI (Sat.bind k2)
  clear k2
  by_cases e : (Nat.ble n.natAbs 1000000 && lim (ds.length * n.toNat)) = true
  · rw [if_pos e] at k
    rw [Bool.and_eq_true] at e
    have b1 := Nat.le_of_ble_eq_true e.1
    exact ⟨by omega, by omega, Nat.le_of_ble_eq_true e.2, k⟩
  · rw [if_neg e] at k
    exact k.elim))
@[simp] def foNone : FO := fun _ => .ok none
@[simp] def foSome (fa : FE) : FO := fun σ => (fa σ).bind fun x => (asI x).bind fun i => .ok (some i)
theorem le_oNone : LeO (ofO E foNone) oNone := fun σ Q h => h
theorem le_oSome (ha : LeE (ofE E fa) da) : LeO (ofO E (foSome fa)) (oSome da) := fun σ Q h => ha σ _ (Sat.mono (Sat.bind h) fun x h => by
  obtain ⟨i, rfl, h⟩ := Sat.asI (Sat.bind h)
  exact h)
@[simp] def fSl (fq : FQ) (l h : FO) : FE := fun σ => (fq σ).bind fun p => (l σ).bind fun lo => (h σ).bind fun hi => .ok (if p.1 then .list (cutD p.2 lo hi) else .tuple (cutD p.2 lo hi))
theorem le_sl (hq : LeQ (ofQ E fq) dq) (h1 : LeO (ofO E fo) dO) (h2 : LeO (ofO E fo') dO') : LeE (ofE E (fSl fq fo fo')) (dSl dq dO dO') := fun σ Q k =>
  hq σ _ (Sat.mono (Sat.bind k) fun p k => h1 σ _ (Sat.mono (Sat.bind k) fun lo k => h2 σ _ (Sat.mono (Sat.bind k) fun hi k => k)))
/-! ### what is walked -/
@[simp] def fItS (fa : FE) : FA := fun σ => (fa σ).bind fun d => (asQ d).bind fun p => .ok p.2
theorem le_itS (ha : LeE (ofE E fa) da) : LeI (ofI E (fItS fa)) (dItS da) := fun σ Q h => ha σ _ (Sat.mono (Sat.bind h) fun d h => by
  unfold asQ at h
  split at h
  · exact h
  · exact h
  · exact h.elim)
def cRng (n : Int) : Bool := Nat.ble n.natAbs 4611686018427387903
def gRange1 : List PyData → Rs (List PyData)
  | [.int n] => if cRng n = true then .ok ((List.range n.toNat).map fun i : Nat => PyData.int i) else .no
  | _ => .no
@[simp] theorem gRange1_int (n : Int) : gRange1 [.int n] = if cRng n = true then .ok ((List.range n.toNat).map fun i : Nat => PyData.int i) else .no := rfl
@[simp] def fRange1 (aa : FA) : FA := fun σ => (aa σ).bind gRange1
theorem cRng_ok {n : Int} (h : cRng n = true) : n < 4611686018427387904 ∧ -4611686018427387904 ≤ n := by
  have h := Nat.le_of_ble_eq_true h
  omega
theorem le_range1 (ha : LeA (ofA E aa) ad) : LeI (ofI E (fRange1 aa)) (dRange1 ad) := fun σ Q h => ha σ _ (Sat.mono (Sat.bind h) fun ds h => by
  unfold gRange1 at h
  split at h
  · rename_i n
    by_cases e : cRng n = true
    · rw [if_pos e] at h
      exact ⟨(cRng_ok e).1, (cRng_ok e).2, h⟩
    · rw [if_neg e] at h
      exact h.elim
  · exact h.elim)
def gRange2 : List PyData → Rs (List PyData)
  | [.int m, .int n] => if (cRng n && cRng m) = true then .ok ((List.range (n - m).toNat).map fun i : Nat => PyData.int (m + i)) else .no
  | _ => .no
@[simp] theorem gRange2_int (m n : Int) : gRange2 [.int m, .int n] = if (cRng n && cRng m) = true then .ok ((List.range (n - m).toNat).map fun i : Nat => PyData.int (m + i)) else .no := rfl
@[simp] def fRange2 (aa : FA) : FA := fun σ => (aa σ).bind gRange2
theorem le_range2 (ha : LeA (ofA E aa) ad) : LeI (ofI E (fRange2 aa)) (dRange2 ad) := fun σ Q h => ha σ _ (Sat.mono (Sat.bind h) fun ds h => by
  unfold gRange2 at h
  split at h
  · rename_i m n
    by_cases e : (cRng n && cRng m) = true
    · rw [if_pos e] at h
      rw [Bool.and_eq_true] at e
      exact ⟨⟨(cRng_ok e.1).1, (cRng_ok e.1).2, (cRng_ok e.2).1, (cRng_ok e.2).2⟩, h⟩
    · rw [if_neg e] at h
      exact h.elim
  · exact h.elim)
def gZip : List PyData → Rs (List PyData)
  | [.list ds, .list es] => .ok (List.zipWith (fun x y => PyData.tuple [x, y]) ds es)
  | [.tuple ds, .tuple es] => .ok (List.zipWith (fun x y => PyData.tuple [x, y]) ds es)
  | _ => .no
@[simp] theorem gZip_l (ds es : List PyData) : gZip [.list ds, .list es] = .ok (List.zipWith (fun x y => PyData.tuple [x, y]) ds es) := rfl
@[simp] theorem gZip_t (ds es : List PyData) : gZip [.tuple ds, .tuple es] = .ok (List.zipWith (fun x y => PyData.tuple [x, y]) ds es) := rfl
@[simp] def fZip (aa : FA) : FA := fun σ => (aa σ).bind gZip
theorem le_zip (ha : LeA (ofA E aa) ad) : LeI (ofI E (fZip aa)) (dZip ad) := fun σ Q h => ha σ _ (Sat.mono (Sat.bind h) fun ds h => by
  unfold gZip at h
  split at h
  · exact h
  · exact h
  · exact h.elim)
def gEnum : List PyData → Rs (List PyData)
  | [.list ds] => .ok (ds.mapIdx fun i x => PyData.tuple [.int (i : Nat), x])
  | [.tuple ds] => .ok (ds.mapIdx fun i x => PyData.tuple [.int (i : Nat), x])
  | _ => .no
@[simp] theorem gEnum_l (ds : List PyData) : gEnum [.list ds] = .ok (ds.mapIdx fun i x => PyData.tuple [.int (i : Nat), x]) := rfl
@[simp] theorem gEnum_t (ds : List PyData) : gEnum [.tuple ds] = .ok (ds.mapIdx fun i x => PyData.tuple [.int (i : Nat), x]) := rfl
@[simp] def fEnum (aa : FA) : FA := fun σ => (aa σ).bind gEnum
theorem le_enum (ha : LeA (ofA E aa) ad) : LeI (ofI E (fEnum aa)) (dEnum ad) := fun σ Q h => ha σ _ (Sat.mono (Sat.bind h) fun ds h => by
  unfold gEnum at h
  split at h
  · exact h
  · exact h
  · exact h.elim)
end
end Dl
end
section
set_option Elab.async false
set_option linter.all false
set_option maxRecDepth 100000
set_option maxHeartbeats 1000000
namespace Dl
open PySem PySem.Spec PyProof.Rows L2 HbE Evl RZ Gx
section
variable {E : Xn → Prop} {fa fb fc : FE} {da db dc : DE} {ft fu : FT} {dt du : DT} {aa : FA} {la ll : FA} {ad : DA} {fq : FQ} {dq : DQ} {dl : DL} {di : DI} {fi : FA} {fg : FG} {dg : DG} {gs : FGs} {dgs : DGs} {s u : FS} {ds du' : DS}
/-! ### targets -/
@[simp] def fgSet (i : Nat) : FG := fun d σ => .ok (σ.set i (some (.dat d)))
theorem le_gSet {i : Nat} : LeG (ofG E (fgSet i)) (gSet i) := fun d σ Q h => h
@[simp] def fgsNil : FGs := fun ds σ => match ds with
  | [] => .ok σ
  | _ => .no
@[simp] def fgsCons (g : FG) (gs : FGs) : FGs := fun ds σ => match ds with
  | d :: r => (g d σ).bind fun σ' => gs r σ'
  | [] => .no
theorem le_gsNil : LeGs (ofGs E fgsNil) gsNil := fun d σ Q h => by
  cases d with
  | nil => exact h
  | cons => exact h.elim
theorem le_gsCons (h1 : LeG (ofG E fg) dg) (h2 : LeGs (ofGs E gs) dgs) : LeGs (ofGs E (fgsCons fg gs)) (gsCons dg dgs) := fun d σ Q h => by
  cases d with
  | nil => exact h.elim
  | cons d r => exact h1 d σ _ (Sat.mono (Sat.bind h) fun σ' h => h2 r σ' Q h)
@[simp] def fgTup (n : Nat) (gs : FGs) : FG := fun d σ => match d with
  | .tuple ds => if ds.length = n then gs ds σ else .no
  | _ => .no
theorem le_gTup {n : Nat} (h : LeGs (ofGs E gs) dgs) : LeG (ofG E (fgTup n gs)) (gTupD n dgs) := fun d σ Q k => by
  unfold ofG fgTup at k
  split at k
  · split at k
    · exact ⟨‹_›, h _ _ _ k⟩
    · exact k.elim
  · exact k.elim
/-! ### comprehensions -/
def lcF (g : FG) (t : FT) (e : FE) (σ0 : Sd) : List PyData → Rs (List PyData)
  | [] => .ok []
  | d :: ds => (g d σ0).bind fun σ2 => (t σ2).bind fun b => if b = true then (e σ2).bind fun y => (lcF g t e σ0 ds).bind fun ys => .ok (y :: ys) else lcF g t e σ0 ds
@[simp] def fLc (fi : FA) (g : FG) (t : FT) (e : FE) (vs : List Nat) : FA := fun σ => (fi σ).bind fun ds => if lim ds.length = true then lcF g t e (wipeD σ vs) ds else .no
theorem lcF_le (hg : LeG (ofG E fg) dg) (ht : LeT (ofT E ft) dt) (he : LeE (ofE E fa) da) {σ0 : Sd} : ∀ {ds acc : List PyData} {Q : List PyData → Prop}, (lcF fg ft fa σ0 ds).Sat E (fun ys => Q (acc ++ ys)) → lcD dg dt da σ0 Q ds acc
  | [], acc, Q, h => by
    have h : Q (acc ++ []) := h
    rw [List.append_nil] at h
    exact h
  | d :: ds, acc, Q, h => hg d σ0 _ (Sat.mono (Sat.bind h) fun σ2 h => ht σ2 _ (Sat.mono (Sat.bind h) fun b h => by
    cases b with
    | true => exact he σ2 _ (Sat.mono (Sat.bind h) fun y h => lcF_le hg ht he (Sat.mono (Sat.bind h) fun ys h => by
        have h : Q (acc ++ y :: ys) := h
        rw [List.append_assoc]
        exact h))
    | false => exact lcF_le hg ht he h))
theorem le_lc {vs : List Nat} (hi : LeI (ofI E fi) di) (hg : LeG (ofG E fg) dg) (ht : LeT (ofT E ft) dt) (he : LeE (ofE E fa) da) : LeL (ofL E (fLc fi fg ft fa vs)) (dLc di dg dt da vs) := fun σ Q h => hi σ _ (Sat.mono (Sat.bind h) fun ds h => by
  by_cases e : lim ds.length = true
  · rw [if_pos e] at h
    exact ⟨Nat.le_of_ble_eq_true e, lcF_le hg ht he (Sat.mono h fun ys h => h)⟩
  · rw [if_neg e] at h
    exact h.elim)
def allF (g : FG) (t : FT) (e : FE) (σ0 : Sd) : List PyData → Rs Bool
  | [] => .ok true
  | d :: ds => (g d σ0).bind fun σ2 => (t σ2).bind fun b => if b = true then (e σ2).bind fun y => (asB y).bind fun c => if c = true then allF g t e σ0 ds else .ok false else allF g t e σ0 ds
@[simp] def fAll (fi : FA) (g : FG) (t : FT) (e : FE) (vs : List Nat) : FE := fun σ => (fi σ).bind fun ds => (allF g t e (wipeD σ vs) ds).bind fun b => .ok (.bool b)
theorem allF_le (hg : LeG (ofG E fg) dg) (ht : LeT (ofT E ft) dt) (he : LeE (ofE E fa) da) {σ0 : Sd} : ∀ {ds : List PyData} {Q : Bool → Prop}, (allF fg ft fa σ0 ds).Sat E Q → allD dg dt da σ0 Q ds
  | [], Q, h => h
  | d :: ds, Q, h => hg d σ0 _ (Sat.mono (Sat.bind h) fun σ2 h => ht σ2 _ (Sat.mono (Sat.bind h) fun b h => by
    cases b with
    | true => exact he σ2 _ (Sat.mono (Sat.bind h) fun y h => by
        obtain ⟨c, rfl, q⟩ := Sat.asB (Sat.bind h)
        cases c with
        | true => exact allF_le hg ht he q
        | false => exact q)
    | false => exact allF_le hg ht he h))
theorem le_all {vs : List Nat} (hi : LeI (ofI E fi) di) (hg : LeG (ofG E fg) dg) (ht : LeT (ofT E ft) dt) (he : LeE (ofE E fa) da) : LeE (ofE E (fAll fi fg ft fa vs)) (dAll di dg dt da vs) := fun σ Q h => hi σ _ (Sat.mono (Sat.bind h) fun ds h =>
  allF_le hg ht he (Sat.mono (Sat.bind h) fun b h => h))
/-! ### statements -/
@[simp] def fNext : FS := fun σ => .ok (.nx σ)
theorem les_next : LeS (ofS E fNext) dNext := fun D σ h => h
@[simp] def fSeq (s u : FS) : FS := fun σ => (s σ).bind fun w => match w with
  | .nx σ' => u σ'
  | .rt d => .ok (.rt d)
  | .bk σ' => .ok (.bk σ')
  | .ct σ' => .ok (.ct σ')
theorem les_seq (h1 : LeS (ofS E s) ds) (h2 : LeS (ofS E u) du') : LeS (ofS E (fSeq s u)) (dSeq ds du') := fun D σ h => h1 _ σ (Sat.mono (Sat.bind h) fun w h => by
  cases w with
  | nx σ' => exact h2 D σ' h
  | rt d => exact h
  | bk σ' => exact h
  | ct σ' => exact h)
@[simp] def fRet (fa : FE) : FS := fun σ => (fa σ).bind fun d => .ok (.rt d)
theorem les_ret (h : LeE (ofE E fa) da) : LeS (ofS E (fRet fa)) (dRet da) := fun D σ k => h σ _ (Sat.mono (Sat.bind k) fun d k => k)
@[simp] def fRetO (i : Nat) : FS := fun σ => match σ[i]? with
  | some (some (.own ds)) => .ok (.rt (.list ds))
  | _ => .no
theorem les_retO {i : Nat} : LeS (ofS E (fRetO i)) (dRetO i) := fun D σ h => by
  unfold ofS fRetO at h
  unfold dRetO
  split at h
  · rename_i q; (try rw [q]); exact h
  · exact h.elim
@[simp] def fIf (ft : FT) (s u : FS) : FS := fun σ => (ft σ).bind fun b => if b = true then s σ else u σ
theorem les_if (h : LeT (ofT E ft) dt) (h1 : LeS (ofS E s) ds) (h2 : LeS (ofS E u) du') : LeS (ofS E (fIf ft s u)) (dIf dt ds du') := fun D σ k => h σ _ (Sat.mono (Sat.bind k) fun b k => by
  cases b with
  | true => exact h1 D σ k
  | false => exact h2 D σ k)
@[simp] def fSet (i : Nat) (fa : FE) : FS := fun σ => (fa σ).bind fun d => .ok (.nx (σ.set i (some (.dat d))))
theorem les_set {i : Nat} (h : LeE (ofE E fa) da) : LeS (ofS E (fSet i fa)) (dSet i da) := fun D σ k => h σ _ (Sat.mono (Sat.bind k) fun d k => k)
@[simp] def fSetO (i : Nat) (la : FA) : FS := fun σ => (la σ).bind fun ds => .ok (.nx (σ.set i (some (.own ds))))
theorem les_setO {i : Nat} (h : LeL (ofL E la) dl) : LeS (ofS E (fSetO i la)) (dSetO i dl) := fun D σ k => h σ _ (Sat.mono (Sat.bind k) fun d k => k)
@[simp] def fAug (i : Nat) (f : Int → Int → Int) (fa : FE) : FS := fun σ => match σ[i]? with
  | some (some (.dat (.int n))) => (fa σ).bind fun d => (asI d).bind fun m => .ok (.nx (σ.set i (some (.dat (.int (f n m))))))
  | _ => .no
theorem les_aug {i : Nat} {f : Int → Int → Int} (h : LeE (ofE E fa) da) : LeS (ofS E (fAug i f fa)) (dAug i f da) := fun D σ k => by
  unfold ofS fAug at k
  unfold dAug
  split at k
  · rename_i q
    (try rw [q])
    refine h σ _ (Sat.mono (Sat.bind k) fun d k2 => ?_)
    obtain ⟨m, rfl, k3⟩ := Sat.asI (Sat.bind k2)
    exact k3
  · exact k.elim
@[simp] def fDrop (fa : FE) : FS := fun σ => (fa σ).bind fun _ => .ok (.nx σ)
theorem les_drop (h : LeE (ofE E fa) da) : LeS (ofS E (fDrop fa)) (dDrop da) := fun D σ k => h σ _ (Sat.mono (Sat.bind k) fun d k => k)
@[simp] def fApp (i : Nat) (fa : FE) : FS := fun σ => match σ[i]? with
  | some (some (.own ds)) => (fa σ).bind fun d => if Nat.ble ds.length 99999 = true then .ok (.nx (σ.set i (some (.own (ds ++ [d]))))) else .no
  | _ => .no
theorem les_app {i : Nat} (h : LeE (ofE E fa) da) : LeS (ofS E (fApp i fa)) (dApp i da) := fun D σ k => by
  unfold ofS fApp at k
  unfold dApp
  split at k
  · rename_i es q
    (try rw [q])
    refine h σ _ (Sat.mono (Sat.bind k) fun d k2 => ?_)
    by_cases e : Nat.ble es.length 99999 = true
    · rw [if_pos e] at k2
      exact ⟨Nat.lt_succ_of_le (Nat.le_of_ble_eq_true e), k2⟩
    · rw [if_neg e] at k2
      exact k2.elim
  · exact k.elim
@[simp] def fPut (i : Nat) (fi fa : FE) : FS := fun σ => match σ[i]? with
  | some (some (.own ds)) => (fa σ).bind fun d => (fi σ).bind fun x => (asI x).bind fun k => (Rs.ofO (ixN ds.length k)).bind fun j => .ok (.nx (σ.set i (some (.own (ds.set j d)))))
  | _ => .no
theorem les_put {i : Nat} (hb : LeE (ofE E fb) db) (h : LeE (ofE E fa) da) : LeS (ofS E (fPut i fb fa)) (dPut i db da) := fun D σ k => by
  unfold ofS fPut at k
  unfold dPut
  split at k
  · rename_i es q
    (try rw [q])
    refine h σ _ (Sat.mono (Sat.bind k) fun d k2 => hb σ _ (Sat.mono (Sat.bind k2) fun x k3 => ?_))
    obtain ⟨n, rfl, k4⟩ := Sat.asI (Sat.bind k3)
    obtain ⟨j, e, k5⟩ := Sat.ofO (Sat.bind k4)
    dsimp only
    rw [e]
    exact k5
  · exact k.elim
@[simp] def fAugIx (i : Nat) (fi fa : FE) : FS := fun σ => match σ[i]? with
  | some (some (.own ds)) => (fi σ).bind fun x => (asI x).bind fun k => (Rs.ofO (ixN ds.length k)).bind fun j => (Rs.ofO ds[j]?).bind fun y => (asI y).bind fun n => (fa σ).bind fun d => (asI d).bind fun m => .ok (.nx (σ.set i (some (.own (ds.set j (.int (n + m)))))))
  | _ => .no
theorem les_augIx {i : Nat} (hb : LeE (ofE E fb) db) (h : LeE (ofE E fa) da) : LeS (ofS E (fAugIx i fb fa)) (dAugIx i db da) := fun D σ k => by
  unfold ofS fAugIx at k
  unfold dAugIx
  split at k
  · rename_i es q
    (try rw [q])
    refine hb σ _ (Sat.mono (Sat.bind k) fun x k2 => ?_)
    obtain ⟨n, rfl, k3⟩ := Sat.asI (Sat.bind k2)
    obtain ⟨j, e, k4⟩ := Sat.ofO (Sat.bind k3)
    obtain ⟨y, e2, k5⟩ := Sat.ofO (Sat.bind k4)
    obtain ⟨m, rfl, k6⟩ := Sat.asI (Sat.bind k5)
    dsimp only
    rw [e]
    dsimp only
    rw [e2]
    refine h σ _ (Sat.mono (Sat.bind k6) fun d k7 => ?_)
    obtain ⟨m2, rfl, k8⟩ := Sat.asI (Sat.bind k7)
    exact k8
  · exact k.elim
@[simp] def fPar (i j : Nat) (aa : FA) : FS := fun σ => (aa σ).bind fun ds => match ds with
  | [d, d'] => .ok (.nx ((σ.set i (some (.dat d))).set j (some (.dat d'))))
  | _ => .no
theorem les_par {i j : Nat} (h : LeA (ofA E aa) ad) : LeS (ofS E (fPar i j aa)) (dPar i j ad) := fun D σ k => h σ _ (Sat.mono (Sat.bind k) fun ds k => by
  split at k
  · exact k
  · exact k.elim)
@[simp] def fAsgG (g : FG) (fa : FE) : FS := fun σ => (fa σ).bind fun d => (g d σ).bind fun σ' => .ok (.nx σ')
theorem les_asgG (hg : LeG (ofG E fg) dg) (h : LeE (ofE E fa) da) : LeS (ofS E (fAsgG fg fa)) (dAsgG dg da) := fun D σ k => h σ _ (Sat.mono (Sat.bind k) fun d k => hg d σ _ (Sat.mono (Sat.bind k) fun σ' k => k))
def forF (g : FG) (b : FS) : List PyData → FS
  | [], σ => .ok (.nx σ)
  | d :: ds, σ => (g d σ).bind fun σ2 => (b σ2).bind fun w => match w with
    | .nx σ' => forF g b ds σ'
    | .ct σ' => forF g b ds σ'
    | .bk σ' => .ok (.nx σ')
    | .rt d => .ok (.rt d)
@[simp] def fFor (fi : FA) (g : FG) (b : FS) : FS := fun σ => (fi σ).bind fun ds => forF g b ds σ
theorem forF_le (hg : LeG (ofG E fg) dg) (hb : LeS (ofS E s) ds) {D : ED} : ∀ {xs : List PyData} {σ : Sd}, (forF fg s xs σ).Sat E D.go → forD dg ds D xs σ
  | [], σ, h => h
  | d :: xs, σ, h => hg d σ _ (Sat.mono (Sat.bind h) fun σ2 h => hb _ σ2 (Sat.mono (Sat.bind h) fun w h => by
    cases w with
    | nx σ' => exact forF_le hg hb h
    | ct σ' => exact forF_le hg hb h
    | bk σ' => exact h
    | rt d => exact h))
theorem les_for (hi : LeI (ofI E fi) di) (hg : LeG (ofG E fg) dg) (hb : LeS (ofS E s) ds) : LeS (ofS E (fFor fi fg s)) (dFor di dg ds) := fun D σ k => hi σ _ (Sat.mono (Sat.bind k) fun xs k => forF_le hg hb k)
def whileF (t : FT) (b : FS) : Nat → FS
  | 0, _ => .no
  | n + 1, σ => (t σ).bind fun c => if c = true then (b σ).bind fun w => match w with
    | .nx σ' => whileF t b n σ'
    | .ct σ' => whileF t b n σ'
    | .bk σ' => .ok (.nx σ')
    | .rt d => .ok (.rt d)
    else .ok (.nx σ)
@[simp] def fWhile (n : Nat) (t : FT) (b : FS) : FS := whileF t b n
theorem les_while {n : Nat} (ht : LeT (ofT E ft) dt) (hb : LeS (ofS E s) ds) : LeS (ofS E (fWhile n ft s)) (dWhile dt ds) := fun D σ k => by
  refine ⟨fun m σ => (whileF ft s m σ).Sat E D.go, ⟨n, k⟩, fun m σ h => ?_⟩
  cases m with
  | zero => exact h.elim
  | succ m =>
    refine ht σ _ (Sat.mono (Sat.bind h) fun c h => ?_)
    cases c with
    | true =>
      exact hb _ σ (Sat.mono (Sat.bind h) fun w h => by
        cases w with
        | nx σ' => exact ⟨m, Nat.lt_succ_self m, h⟩
        | ct σ' => exact ⟨m, Nat.lt_succ_self m, h⟩
        | bk σ' => exact h
        | rt d => exact h)
    | false => exact h
@[simp] def fRaise (x : Xn) : FS := fun _ => .ex x
def E0 : Xn → Prop := fun _ => False
theorem les_raise {x : Xn} : LeS (ofS E0 (fRaise x)) dRaise := fun D σ k => k
@[simp] def fFrz (i : Nat) (s : FS) : FS := fun σ => match σ[i]? with
  | some (some (.own ds)) => s (σ.set i (some (.dat (.list ds))))
  | _ => .no
theorem les_frz {i : Nat} (h : LeS (ofS E s) ds) : LeS (ofS E (fFrz i s)) (dFrz i ds) := fun D σ k => by
  unfold ofS fFrz at k
  unfold dFrz
  split at k
  · rename_i q
    (try rw [q])
    exact h D _ k
  · exact k.elim
end
/-! ### defs -/
@[simp] def Fw.out : Fw → Rs PyData
  | .nx _ => .ok .none
  | .rt d => .ok d
  | _ => .no
@[simp] def mkF (n N : Nat) (fs : FS) : FF := fun ds => if ds.length = n then (fs (startD N (ds.map WD.dat))).bind Fw.out else .no
theorem mkF_len {n N : Nat} {fs : FS} {ws : List WD} {Q : PyData → Prop} (h : ofF E0 (mkF n N fs) ws Q) : ws.length = n := by
  obtain ⟨ds, rfl, h⟩ := h
  unfold mkF at h
  split at h
  · simpa using ‹ds.length = n›
  · exact h.elim
theorem mkF_pu {n N : Nat} {fs : FS} {ds : DS} (h : LeS (ofS E0 fs) ds) {ws : List WD} {Q : PyData → Prop} (k : ofF E0 (mkF n N fs) ws Q) : ds { nx := fun _ => Q .none, rt := Q } (startD N ws) := by
  obtain ⟨es, rfl, k⟩ := k
  unfold mkF at k
  split at k
  · refine h _ _ (Sat.mono (Sat.bind k) fun w k => ?_)
    cases w with
    | nx σ' => exact k
    | rt d => exact k
    | bk σ' => exact k.elim
    | ct σ' => exact k.elim
  · exact k.elim
section
variable {P : Program} {w : World} {K : PySem.W.Frag} {mg : Str → Option Value} {base : Heap} {Ps : List Addr}
theorem okF {x qual : Str} {st : Stmt} {f : Addr} {fd : FuncData} {N ps : List Str} {k n : Nat} {fs : FS} (F : Fun K x qual st f fd) (S : FnScope N ps (defScope st)) (hn : ps.length = n)
    (body : ∀ (cdv : Value) (A : Around) (outer : List Env) (s : Shared) (H : Hp) (E : XK), Room k (A.deeper (envOfC qual (defScope st) s.heap.objs.size f cdv)) →
      ∃ db, PSs (cxOf CX0 P w K mg base N qual (defScope st) f cdv A outer s H E).nox (defBody st) (liftS K Ps db) ∧ LeS (ofS E0 fs) db) :
    FnOk P w K mg base CX0 (k + 1) f fd ps (spOf K Ps (ofF E0 (mkF n N.length fs))) :=
  okD F S (fun ws Q h => by rw [hn]; exact mkF_len h) fun cdv A outer s H E hr => by
    obtain ⟨db, h1, h2⟩ := body cdv A outer s H E hr
    exact ⟨db, h1, fun ws Qd h => mkF_pu h2 h⟩
theorem okFC {x qual : Str} {st : Stmt} {c f : Addr} {fd : FuncData} {N ps : List Str} {k n : Nat} {fs : FS} (F : FunC K x qual st c f fd) (S : FnScope N ps (defScope st)) (hn : ps.length = n)
    (body : ∀ (A : Around) (outer : List Env) (s : Shared) (H : Hp) (E : XK), Room k (A.deeper (envOfC qual (defScope st) s.heap.objs.size f (.ref c))) →
      ∃ db, PSs (cxOf CX0 P w K mg base N qual (defScope st) f (.ref c) A outer s H E).nox (defBody st) (liftS K Ps db) ∧ LeS (ofS E0 fs) db) :
    FnOk P w K mg base CX0 (k + 1) f fd ps (spOf K Ps (ofF E0 (mkF n N.length fs))) :=
  okDC F S (fun ws Q h => by rw [hn]; exact mkF_len h) fun A outer s H E hr => by
    obtain ⟨db, h1, h2⟩ := body A outer s H E hr
    exact ⟨db, h1, fun ws Qd h => mkF_pu h2 h⟩
end
end Dl
end
section
set_option Elab.async false
set_option linter.all false
set_option maxRecDepth 100000
set_option maxHeartbeats 1000000
/-! Running functions over data: bounds; loops; comprehensions. -/
namespace Dl
open PySem PySem.Spec PyProof.Rows L2 HbE Evl RZ Gx
theorem fSeq_nx {s u : FS} {σ σ' : Sd} (h : s σ = .ok (.nx σ')) : fSeq s u σ = u σ' := by
  unfold fSeq
  rw [h]
  rfl
@[simp] theorem startD_eq {n : Nat} {ws : List WD} : startD n ws = ws.map some ++ List.replicate (n - ws.length) none := rfl
theorem log2_le {z c : Nat} (hz : z < 2 ^ c) : z.log2 ≤ c := by
  by_cases h0 : z = 0
  · subst h0; exact Nat.zero_le _
  · exact Nat.le_of_lt ((Nat.log2_lt h0).mpr hz)
theorem cMul_lt {x y : Int} {a b : Nat} (ha : x.natAbs < 2 ^ a) (hb : y.natAbs < 2 ^ b) (h : a + b ≤ 90000000 := by omega) : cMul x y = true := by
  have h1 := log2_le ha
  have h2 := log2_le hb
  exact Nat.ble_eq_true_of_le (by omega)
theorem cDiv_lt {x y : Int} {b : Nat} (h0 : 0 < y) (hb : y.natAbs < 2 ^ b) (h : b ≤ 9000 := by omega) : cDiv x y = true := by
  have : y.natAbs.log2 < b := (Nat.log2_lt (by omega)).mpr hb
  unfold cDiv
  rw [decide_eq_true h0, Nat.ble_eq_true_of_le (by omega)]
  rfl
theorem cPos_of {x y : Int} (h0 : 0 < y) : cPos x y = true := decide_eq_true h0
theorem cNn_of {x y : Int} (h0 : 0 ≤ y) : cNn x y = true := decide_eq_true h0
theorem lim_of {n : Nat} (h : n ≤ 100000) : lim n = true := Nat.ble_eq_true_of_le h
@[simp] theorem lim_0 : lim 0 = true := rfl
@[simp] theorem lim_1 : lim 1 = true := rfl
@[simp] theorem lim_2 : lim 2 = true := rfl
@[simp] theorem lim_3 : lim 3 = true := rfl
@[simp] theorem lim_4 : lim 4 = true := rfl
@[simp] theorem lim_5 : lim 5 = true := rfl
@[simp] theorem lim_6 : lim 6 = true := rfl
@[simp] theorem lim_7 : lim 7 = true := rfl
@[simp] theorem lim_8 : lim 8 = true := rfl
@[simp] theorem lim_9 : lim 9 = true := rfl
@[simp] theorem lim_10 : lim 10 = true := rfl
@[simp] theorem lim_11 : lim 11 = true := rfl
@[simp] theorem lim_12 : lim 12 = true := rfl
@[simp] theorem lim_13 : lim 13 = true := rfl
@[simp] theorem lim_14 : lim 14 = true := rfl
@[simp] theorem lim_15 : lim 15 = true := rfl
@[simp] theorem lim_16 : lim 16 = true := rfl
@[simp] theorem lim_17 : lim 17 = true := rfl
@[simp] theorem lim_18 : lim 18 = true := rfl
@[simp] theorem lim_19 : lim 19 = true := rfl
@[simp] theorem lim_20 : lim 20 = true := rfl
@[simp] theorem lim_21 : lim 21 = true := rfl
@[simp] theorem lim_22 : lim 22 = true := rfl
@[simp] theorem lim_23 : lim 23 = true := rfl
@[simp] theorem lim_24 : lim 24 = true := rfl
theorem cRng_of {n : Int} (h1 : n < 4611686018427387904) (h2 : -4611686018427387904 < n) : cRng n = true := Nat.ble_eq_true_of_le (by omega)
theorem cRng_nat {n : Nat} (h : n < 4611686018427387904) : cRng (n : Int) = true := Nat.ble_eq_true_of_le (by rw [Int.natAbs_natCast]; omega)
theorem cShl_of {i j : Int} {a : Nat} (h0 : 0 ≤ j) (ha : i.natAbs < 2 ^ a) (h : a + j.toNat ≤ 99999999) : cShl i j = true := by
  have h1 := log2_le ha
  unfold cShl
  rw [decide_eq_true h0, Nat.ble_eq_true_of_le (by omega)]
  rfl
theorem out_bind (r : Rs PyData) : (r.bind fun d => Rs.ok (Fw.rt d)).bind Fw.out = r := by
  cases r <;> rfl
@[simp] theorem bind_assoc {α β γ : Type} (r : Rs α) (f : α → Rs β) (g : β → Rs γ) : (r.bind f).bind g = r.bind fun a => (f a).bind g := by
  cases r <;> rfl
theorem bind_id {α : Type} (r : Rs α) : (r.bind fun a => .ok a) = r := by
  cases r <;> rfl
section
variable {g : FG} {t : FT} {e : FE} {σ0 : Sd} {ds : List PyData}
theorem lcF_ok {f : PyData → PyData} (h : ∀ d ∈ ds, ((g d σ0).bind fun σ2 => e σ2) = .ok (f d)) : lcF g fYes e σ0 ds = .ok (ds.map f) := by
  induction ds with
  | nil => rfl
  | cons d ds ih =>
    have h1 := h d List.mem_cons_self
    have h2 := ih fun x hx => h x (List.mem_cons_of_mem _ hx)
    unfold lcF
    cases q : g d σ0 with
    | ok σ2 =>
      rw [q] at h1
      simp only [bind_ok, fYes, if_true] at h1 ⊢
      rw [h1]
      simp only [bind_ok]
      rw [h2]
      rfl
    | ex x => rw [q] at h1; cases h1
    | no => rw [q] at h1; cases h1
theorem lcF_if {f : PyData → PyData} {p : PyData → Bool} (h : ∀ d ∈ ds, ∃ σ2, g d σ0 = .ok σ2 ∧ t σ2 = .ok (p d) ∧ (p d = true → e σ2 = .ok (f d))) : lcF g t e σ0 ds = .ok ((ds.filter p).map f) := by
  induction ds with
  | nil => rfl
  | cons d ds ih =>
    obtain ⟨σ2, h1, h2, h3⟩ := h d List.mem_cons_self
    have h4 := ih fun x hx => h x (List.mem_cons_of_mem _ hx)
    unfold lcF
    rw [h1]
    simp only [bind_ok]
    rw [h2]
    simp only [bind_ok]
    cases q : p d with
    | true =>
      rw [if_pos rfl, h3 q, h4, List.filter_cons_of_pos q]
      rfl
    | false => rw [if_neg (by simp), h4, List.filter_cons_of_neg (by simp [q])]
theorem allF_ok {f : PyData → Bool} (h : ∀ d ∈ ds, ((g d σ0).bind fun σ2 => e σ2) = .ok (.bool (f d))) : allF g fYes e σ0 ds = .ok (ds.all f) := by
  induction ds with
  | nil => rfl
  | cons d ds ih =>
    have h1 := h d List.mem_cons_self
    have h2 := ih fun x hx => h x (List.mem_cons_of_mem _ hx)
    unfold allF
    cases q : g d σ0 with
    | ok σ2 =>
      rw [q] at h1
      simp only [bind_ok, fYes, if_true] at h1 ⊢
      rw [h1]
      simp only [bind_ok, asB]
      rw [h2]
      cases q : f d <;> simp [q]
    | ex x => rw [q] at h1; cases h1
    | no => rw [q] at h1; cases h1
/-- a loop by an invariant -/
theorem forF_inv {b : FS} (I : Nat → Sd → Prop) (h : ∀ (i : Nat) (d : PyData) (σ : Sd), ds[i]? = some d → I i σ → ∃ σ2 σ', g d σ = .ok σ2 ∧ (b σ2 = .ok (.nx σ') ∨ b σ2 = .ok (.ct σ')) ∧ I (i + 1) σ') {σ : Sd} (h0 : I 0 σ) : ∃ σ', forF g b ds σ = .ok (.nx σ') ∧ I ds.length σ' := by
  have main : ∀ (es : List PyData) (k : Nat) (σ : Sd), ds.drop k = es → k ≤ ds.length → I k σ → ∃ σ', forF g b es σ = .ok (.nx σ') ∧ I ds.length σ' := by
    intro es
    induction es with
    | nil =>
      intro k σ e hk hI
      have hk : k = ds.length := by
        have := congrArg List.length e
        simp at this
        omega
      subst hk
      exact ⟨σ, rfl, hI⟩
    | cons d es ih =>
      intro k σ e hk hI
      have hk2 : k < ds.length := by
        have := congrArg List.length e
        simp at this
        omega
      rw [List.drop_eq_getElem_cons hk2] at e
      cases e
      obtain ⟨σ2, σ', h1, h2, h3⟩ := h k _ σ (List.getElem?_eq_getElem hk2) hI
      obtain ⟨σ3, h4, h5⟩ := ih (k + 1) σ' rfl hk2 h3
      refine ⟨σ3, ?_, h5⟩
      unfold forF
      rw [h1]
      simp only [bind_ok]
      rcases h2 with h2 | h2
      · rw [h2]; exact h4
      · rw [h2]; exact h4
  exact main ds 0 σ rfl (Nat.zero_le _) h0
theorem forF_run {β : Type} {b : FS} {K : Fw → Rs β} {r : Rs β} (I : Nat → Sd → Prop) {σ : Sd} (h0 : I 0 σ) (h : ∀ (i : Nat) (d : PyData) (σ : Sd), ds[i]? = some d → I i σ → ∃ σ2 σ', g d σ = .ok σ2 ∧ (b σ2 = .ok (.nx σ') ∨ b σ2 = .ok (.ct σ')) ∧ I (i + 1) σ')
    (he : ∀ σ', I ds.length σ' → K (.nx σ') = r) : (forF g b ds σ).bind K = r := by
  obtain ⟨σ', h1, h2⟩ := forF_inv I h h0
  rw [h1]
  exact he σ' h2
/-- a while by an invariant and a measure -/
theorem whileF_inv {b : FS} (I : Nat → Sd → Prop) (h : ∀ (m : Nat) (σ : Sd), I m σ → (t σ = .ok false) ∨ (t σ = .ok true ∧ ∃ σ' m', m' < m ∧ (b σ = .ok (.nx σ') ∨ b σ = .ok (.ct σ')) ∧ I m' σ')) : ∀ (n m : Nat) {σ : Sd}, I m σ → m < n → ∃ σ' m', whileF t b n σ = .ok (.nx σ') ∧ I m' σ' ∧ t σ' = .ok false
  | 0, m, σ, _, hn => by omega
  | n + 1, m, σ, hI, hn => by
    unfold whileF
    rcases h m σ hI with q | ⟨q, σ', m', hm, hb, hI'⟩
    · rw [q]
      exact ⟨σ, m, rfl, hI, q⟩
    · rw [q]
      obtain ⟨σ3, m3, h4, h5, h6⟩ := whileF_inv I h n m' hI' (by omega)
      refine ⟨σ3, m3, ?_, h5, h6⟩
      simp only [bind_ok, if_true]
      rcases hb with hb | hb
      · rw [hb]; exact h4
      · rw [hb]; exact h4
theorem whileF_run {β : Type} {b : FS} {K : Fw → Rs β} {r : Rs β} (I : Nat → Sd → Prop) {n m : Nat} {σ : Sd} (h0 : I m σ) (hn : m < n) (h : ∀ (m : Nat) (σ : Sd), I m σ → (t σ = .ok false) ∨ (t σ = .ok true ∧ ∃ σ' m', m' < m ∧ (b σ = .ok (.nx σ') ∨ b σ = .ok (.ct σ')) ∧ I m' σ'))
    (he : ∀ m' σ', I m' σ' → t σ' = .ok false → K (.nx σ') = r) : (whileF t b n σ).bind K = r := by
  obtain ⟨σ', m', h1, h2, h3⟩ := whileF_inv I h n m h0 hn
  rw [h1]
  exact he m' σ' h2 h3
end
@[simp] theorem tyD_int (i : Int) : tyD (.int i) = "int" := rfl
@[simp] theorem tyD_bool (i : Bool) : tyD (.bool i) = "bool" := rfl
@[simp] theorem tyD_tuple (i : List PyData) : tyD (.tuple i) = "tuple" := rfl
@[simp] theorem tyD_list (i : List PyData) : tyD (.list i) = "list" := rfl
@[simp] theorem isB_ii : isB "int" "int" = true := by decide +kernel
@[simp] theorem isB_ib : isB "int" "bool" = false := by decide +kernel
@[simp] theorem isB_tt : isB "tuple" "tuple" = true := by decide +kernel
@[simp] theorem isB_bi : isB "bool" "int" = true := by decide +kernel
@[simp] theorem isB_bb : isB "bool" "bool" = true := by decide +kernel
@[simp] theorem isB_it : isB "int" "tuple" = false := by decide +kernel
@[simp] theorem isB_lt : isB "list" "tuple" = false := by decide +kernel
@[simp] theorem isB_ti : isB "tuple" "int" = false := by decide +kernel
end Dl
namespace Dl
open PySem PySem.Spec PyProof.Rows L2 HbE Evl RZ Gx
@[simp] theorem gEq_int (neg : Bool) (i j : Int) : gEq neg (.int i) (.int j) = some (.bool (if neg then !(i == j) else i == j)) := rfl
/-- a list (true) or a tuple of ints -/
def sI (l : Bool) (ns : List Int) : PyData := if l then .list (ns.map .int) else .tuple (ns.map .int)
@[simp] theorem asQ_sI (l : Bool) (ns : List Int) : asQ (sI l ns) = .ok (l, ns.map .int) := by cases l <;> rfl
@[simp] theorem gMin_c (b : Bool) (n : Int) (ns : List Int) : gMin b (.int n :: ns.map .int) = some (.int (ns.foldl min n)) := by
  have e := intsD_map (n :: ns)
  unfold gMin
  rw [List.map_cons] at e
  rw [e]
@[simp] theorem gMax_c (b : Bool) (n : Int) (ns : List Int) : gMax b (.int n :: ns.map .int) = some (.int (ns.foldl max n)) := by
  have e := intsD_map (n :: ns)
  unfold gMax
  rw [List.map_cons] at e
  rw [e]
abbrev tI (ns : List Int) : PyData := .tuple (ns.map .int)
abbrev eF (p : Int × Int) : PyData := .tuple [.int p.1, .int p.2]
abbrev eR (b : Int) (ns : List Int) : PyData := .tuple [.int b, tI ns]
@[simp] theorem atI_zero {α : Type} (x : α) (l : List α) : atI (x :: l) 0 = some x := by simp [atI, ixN]
@[simp] theorem atI_one {α : Type} (x y : α) (l : List α) : atI (x :: y :: l) 1 = some y := by
  unfold atI ixN
  rw [if_pos (by decide), if_pos (by simp only [List.length_cons]; omega)]
  rfl
@[simp] theorem atI_two {α : Type} (x y z : α) (l : List α) : atI (x :: y :: z :: l) 2 = some z := by
  unfold atI ixN
  rw [if_pos (by decide), if_pos (by simp only [List.length_cons]; omega)]
  rfl
theorem atI_at {α : Type} {l : List α} {i : Nat} {x : α} (h : l[i]? = some x) : atI l (i : Int) = some x := by
  have hl : i < l.length := (List.getElem?_eq_some_iff.mp h).1
  unfold atI ixN
  rw [if_pos (by omega), if_pos (by omega)]
  simpa using h
theorem ixN_at {n i : Nat} (h : i < n) : ixN n (i : Int) = some i := by
  unfold ixN
  rw [if_pos (by omega), if_pos (by omega)]
  simp
@[simp] theorem intsD_m (ns : List Int) : intsD (ns.map PyData.int) = some ns := intsD_map ns
/-- of nesting up to n -/
def Shp (n : Nat) (d : PyData) : Prop := d.canLay0 = true ∧ d.depth ≤ n
def ShpAll (n : Nat) (ds : List PyData) : Prop := ∀ d ∈ ds, Shp n d
theorem Shp.mono {n m : Nat} {d : PyData} (h : Shp n d) (k : n ≤ m) : Shp m d := ⟨h.1, Nat.le_trans h.2 k⟩
theorem shp_all {n : Nat} : ∀ {ds : List PyData}, ShpAll n ds → PyData.canLayAll0 ds = true ∧ PyData.depthAll ds ≤ n
  | [], _ => ⟨by simp [PyData.canLayAll0], by simp [PyData.depthAll]⟩
  | d :: ds, h => by
    have h1 := h d List.mem_cons_self
    have h2 := shp_all (ds := ds) fun x hx => h x (List.mem_cons_of_mem _ hx)
    refine ⟨by rw [PyData.canLayAll0, h1.1, h2.1]; rfl, ?_⟩
    rw [PyData.depthAll]
    exact Nat.max_le.mpr ⟨h1.2, h2.2⟩
theorem shp_int {n : Nat} (i : Int) : Shp n (.int i) := ⟨by rw [PyData.canLay0], by rw [PyData.depth]; exact Nat.zero_le _⟩
theorem shp_bool {n : Nat} (i : Bool) : Shp n (.bool i) := ⟨by rw [PyData.canLay0], by rw [PyData.depth]; exact Nat.zero_le _⟩
theorem shp_none {n : Nat} : Shp n .none := ⟨by rw [PyData.canLay0], by rw [PyData.depth]; exact Nat.zero_le _⟩
theorem shp_tup {n : Nat} {ds : List PyData} (h : ShpAll n ds) : Shp (n + 1) (.tuple ds) := by
  have k := shp_all h
  exact ⟨by rw [PyData.canLay0]; exact k.1, by rw [PyData.depth]; omega⟩
theorem shp_lst {n : Nat} {ds : List PyData} (h : ShpAll n ds) : Shp (n + 1) (.list ds) := by
  have k := shp_all h
  exact ⟨by rw [PyData.canLay0]; exact k.1, by rw [PyData.depth]; omega⟩
theorem shp_ints {n : Nat} (ns : List Int) : ShpAll n (ns.map .int) := fun d hd => by
  obtain ⟨i, _, rfl⟩ := List.mem_map.mp hd
  exact shp_int i
theorem shp_nil {n : Nat} : ShpAll n [] := fun d hd => by cases hd
theorem shp_cons {n : Nat} {d : PyData} {ds : List PyData} (h : Shp n d) (k : ShpAll n ds) : ShpAll n (d :: ds) := fun x hx => by
  rcases List.mem_cons.mp hx with rfl | hx
  · exact h
  · exact k x hx
theorem shp_map {α : Type} {n : Nat} {f : α → PyData} {l : List α} (h : ∀ a ∈ l, Shp n (f a)) : ShpAll n (l.map f) := fun d hd => by
  obtain ⟨a, ha, rfl⟩ := List.mem_map.mp hd
  exact h a ha
theorem shp_tI {n : Nat} (ns : List Int) : Shp (n + 1) (tI ns) := shp_tup (shp_ints ns)
theorem shp_eF {n : Nat} (p : Int × Int) : Shp (n + 1) (eF p) := shp_tup (shp_cons (shp_int _) (shp_cons (shp_int _) shp_nil))
theorem shp_eR {n : Nat} (b : Int) (ns : List Int) : Shp (n + 2) (eR b ns) := shp_tup (shp_cons (shp_int _) (shp_cons (shp_tI ns) shp_nil))
theorem shaped_of {n : Nat} {d : PyData} (h : Shp n d) (k : n ≤ 64 := by omega) : SeqAt.shaped d = true := by
  unfold SeqAt.shaped
  rw [h.1]
  exact decide_eq_true (Nat.le_trans h.2 k)
mutual
theorem eqv_self : ∀ d : PyData, d.canLay0 = true → PyData.eqv d d = true
  | .none, _ => by rw [PyData.eqv]
  | .bool b, _ => by rw [PyData.eqv]; simp
  | .int i, _ => by rw [PyData.eqv]; simp
  | .str x, _ => by rw [PyData.eqv]; simp
  | .list xs, h => by
    rw [PyData.eqv]
    rw [PyData.canLay0] at h
    exact eqvAll_self xs h
  | .tuple xs, h => by
    rw [PyData.eqv]
    rw [PyData.canLay0] at h
    exact eqvAll_self xs h
  | .dict _, h => by rw [PyData.canLay0] at h; cases h
theorem eqvAll_self : ∀ ds : List PyData, PyData.canLayAll0 ds = true → PyData.eqvAll ds ds = true
  | [], _ => by rw [PyData.eqvAll]
  | d :: ds, h => by
    rw [PyData.canLayAll0, Bool.and_eq_true] at h
    rw [PyData.eqvAll, eqv_self d h.1, eqvAll_self ds h.2]
    rfl
end
theorem gEq_self {n : Nat} {neg : Bool} {d : PyData} (h : Shp n d) (k : n ≤ 64 := by omega) : gEq neg d d = some (.bool (!neg)) := by
  unfold gEq
  rw [shaped_of h k, eqv_self d h.1]
  cases neg <;> rfl
end Dl
end
section
set_option Elab.async false
set_option linter.all false
set_option maxRecDepth 100000
set_option maxHeartbeats 1000000
/-! A new drawer, in a slot. -/
namespace Dl
open PySem PySem.Spec PyProof.Rows L2 HbE Evl RZ Gx
/-- what makes a drawer promises: from a list of ints and a small place -/
def spHatD (K : PySem.W.Frag) : Sp := fun vs H Q _ => ∃ (a : Addr) (ns : List Int) (i : Nat), vs = [.ref a, .int i] ∧ SqL K H a (ns.map V.int) ∧ i ≤ 3 ∧
  ∀ p o, H p = none → Hat o → Q (.ref p) (upd H p o)
section
variable {K : PySem.W.Frag} {Ps : List Addr} {c : C0} {hs as : List Addr} {H H' : Hp} {σ : L2.St} {σd : Sd} {i : Nat} {p : Addr} {o : HO}
theorem ex_hat (f : Fr Ps c hs as H) (hp : H p = none) : Ex (msk (Mk c hs as) H) (msk (Mk c (p :: hs) as) (upd H p o)) := fun a u e => by
  obtain ⟨n, e1⟩ := msk_some.mp e
  have na : a ≠ p := fun z => by rw [z, hp] at e1; cases e1
  refine msk_some.mpr ⟨fun m => ?_, by rw [upd_ne na]; exact e1⟩
  rcases m with m | m | m
  · exact n (.inl m)
  · rcases List.mem_cons.mp m with z | z
    · exact na z
    · exact n (.inr (.inl z))
  · exact n (.inr (.inr m))
theorem Sts.newHat (S : Sts K Ps c hs as σ H σd) (hp : H p = none) (ho : Hat o) : Sts K Ps c (p :: hs) as (σ.set i (some (.ref p))) (upd H p o) (σd.set i (some .hat)) := by
  have f := S.fr
  have s : Step hs Ps H (upd H p o) := Step.of_ex (Ex.new hp)
  have s0 : Step c.hs0 Ps c.H0 (upd H p o) := f.st.trans (Step.of_ex (Ex.new hp))
  have e := ex_hat (o := o) f hp
  have c0 : c.H0 p = none := by
    cases q : c.H0 p with
    | none => rfl
    | some u => exact absurd hp (f.st.some f.wf0 (by rw [q]; simp))
  have neas : ∀ a ∈ as, a ≠ p := fun a ha z => (f.own a ha).2.1 (z ▸ hp)
  have f' : Fr Ps c (p :: hs) as (upd H p o) := by
    refine ⟨f.wf0, s0, fun q hq => ?_, fun q hq => List.mem_cons_of_mem _ (f.sub q hq), fun a ha => ?_, f.bs.trans e⟩
    · rcases List.mem_cons.mp hq with rfl | hq
      · exact ⟨⟨o, upd_same, ho⟩, .inr c0⟩
      · obtain ⟨⟨u, e1, e2⟩, e3⟩ := f.hat q hq
        exact ⟨⟨u, by rw [upd_ne (fun z => by rw [z, hp] at e1; cases e1)]; exact e1, e2⟩, e3⟩
    · obtain ⟨h1, h2, h3, h4⟩ := f.own a ha
      refine ⟨h1, by rw [upd_ne (neas a ha)]; exact h2, fun z => ?_, h4⟩
      rcases List.mem_cons.mp z with z | z
      · exact neas a ha z
      · exact h3 z
  refine ⟨f', by simp [S.len], fun j w2 ej => ?_, fun j k ds es n e1 e2 => ?_⟩
  · rcases set_get ej with ⟨rfl, rfl⟩ | ⟨n, ej⟩
    · exact ⟨_, set_has S.len ‹_›, p, rfl, List.mem_cons_self⟩
    · rw [List.getElem?_set_ne n]
      obtain ⟨v, q1, q2⟩ := S.slot j w2 ej
      refine ⟨v, q1, ?_⟩
      cases w2 with
      | dat d => exact dp_mono e q2
      | own es =>
        obtain ⟨a, us, rfl, ha, r1, r2⟩ := q2
        exact ⟨a, us, rfl, ha, by rw [upd_ne (neas a ha)]; exact r1, dpAll_mono e r2⟩
      | hat =>
        obtain ⟨q, rfl, hq⟩ := q2
        exact ⟨q, rfl, List.mem_cons_of_mem _ hq⟩
  · rcases set_get e1 with ⟨_, z⟩ | ⟨n1, e1'⟩
    · cases z
    · rcases set_get e2 with ⟨_, z⟩ | ⟨n2, e2'⟩
      · cases z
      · rw [List.getElem?_set_ne n1, List.getElem?_set_ne n2]
        exact S.dis j k ds es n e1' e2'
end
section
variable {X : Cx} {Ps : List Addr} {e a b : PySem.Expr} {es : List PySem.Expr} {pos pos' : Pos} {i : Nat} {x : Str}
def asInts : PyData → Option (List Int)
  | .list ds => intsD ds
  | _ => none
/-- x = hat(script, spot) -/
def dSetHat (i : Nat) (da : DA) : DS := fun D σ => da σ fun ws => match ws with
  | [.dat (.list ds), .dat (.int k)] => (intsD ds).isSome = true ∧ (0 ≤ k ∧ k ≤ 3) ∧ D.nx (σ.set i (some .hat))
  | _ => False
theorem psd_setHat {f : Addr} {fd : FuncData} {ps : List Str} {k : Nat} {da : DA} {y : Str} {p : Pos} (hN : X.N.Nodup) (hi : X.N[i]? = some x) (hx : Loc X.env.scope x)
    (F : FnOk X.prog X.w X.K X.mg X.base CX0 k f fd ps (spHatD X.K)) (hr : Room k X.A) (hg : Gl X y) (hm : X.mg y = some (.ref f)) (hk : PySem.W.keepIn X.K (.ref f) = true) (hb : Binds X.K fd ps []) (ha : PA X (e :: es) (liftA X.K Ps da))
    (hdb : (y == ("__debug__" : Str)) = false := by decide) (he : starEach (e :: es) X.env = (false, eval e X.env) :: starEach es X.env := by rfl) (hpl : (backTo pos (starEach es X.env)).any (·.1) = false := by rfl)
    (hs : swapsWith (.Call (.Name y p) (e :: es) [] pos) (some (.Name x pos')) pos.line X.env = pure false := by rfl) (hf : X.fn x = true ∨ X.env.scope.names.lookup x = some .local := by first | exact .inl rfl | exact .inr rfl | assumption) {spos : Pos} (hs2 : swapsWith (.Call (.Name y p) (e :: es) [] pos) (some (.Name x pos')) spos.line X.env = pure false := by rfl) :
    PS X (.Assign [.Name x pos'] (.Call (.Name y p) (e :: es) [] pos) spos) (liftS X.K Ps (dSetHat i da)) :=
  ps_weak (ps_set hN hi hx (pe_call F hr hg hm hk hb .nil pass0 ha hdb he hpl) hs2 hf) fun D σ H ⟨c, hs, as, σd, Dd, S, h, r⟩ => by
    refine ⟨c, hs, as, σd, _, S, h, fun ws vs H1 h1 s1 r1 => ?_⟩
    split at h1
    · rename_i ds n
      obtain ⟨h2, h3, h4⟩ := h1
      cases r1 with
      | cons q1 q2 =>
        cases q2 with
        | cons q2 q3 =>
          cases q3
          cases q2
          cases q1 with
          | lst l1 l2 =>
            obtain ⟨ns, hns⟩ := Option.isSome_iff_exists.mp h2
            have ev := intsD_dp l2 hns
            subst ev
            obtain ⟨m, rfl⟩ : ∃ m : Nat, n = m := ⟨n.toNat, by omega⟩
            exact ⟨_, ns, m, rfl, ex_l msk_ex l1, by omega, fun q o hq ho => r.nx _ as _ _ _ ((S.step s1).newHat hq ho) h4⟩
    · exact h1.elim
end
end Dl
end
section
set_option Elab.async false
set_option linter.all false
set_option maxRecDepth 100000
set_option maxHeartbeats 1000000
/-! Functions for what DlR reads: t[::-1], list(..), bool(..), list + list, in. -/
namespace Dl
open PySem PySem.Spec PyProof.Rows L2 HbE Evl RZ Gx
section
variable {E : Xn → Prop} {fa fb : FE} {da db : DE} {fq fr : FQ} {dq dr : DQ}
@[simp] def fBack (fq : FQ) : FE := fun σ => (fq σ).bind fun p => .ok (if p.1 then .list p.2.reverse else .tuple p.2.reverse)
theorem le_back (h : LeQ (ofQ E fq) dq) : LeE (ofE E (fBack fq)) (dBack dq) := fun σ Q k => h σ _ (Sat.mono (Sat.bind k) fun p k => k)
@[simp] def fListOf (fq : FQ) : FA := fun σ => (fq σ).bind fun p => .ok p.2
theorem le_listOf (h : LeQ (ofQ E fq) dq) : LeL (ofL E (fListOf fq)) (dListOf dq) := fun σ Q k => h σ _ (Sat.mono (Sat.bind k) fun p k => k)
def gBool : List PyData → Option PyData
  | [.int i] => some (.bool (i != 0))
  | [.bool b] => some (.bool b)
  | _ => none
@[simp] theorem gBool_int (i : Int) : gBool [.int i] = some (.bool (i != 0)) := rfl
@[simp] theorem gBool_bool (b : Bool) : gBool [.bool b] = some (.bool b) := rfl
theorem len_bool : LeOpN gBool fBool := fun ds d Q e q => by
  unfold gBool at e
  split at e
  · cases e; exact q
  · cases e; exact q
  · cases e
@[simp] def fCatL (fq fr : FQ) : FA := fun σ => (fq σ).bind fun p => (fr σ).bind fun q => if (p.1 && q.1 && lim (p.2.length + q.2.length)) = true then .ok (p.2 ++ q.2) else .no
theorem le_catL (h : LeQ (ofQ E fq) dq) (h' : LeQ (ofQ E fr) dr) : LeL (ofL E (fCatL fq fr)) (dCatL dq dr) := fun σ Q k => h σ _ (Sat.mono (Sat.bind k) fun p k => h' σ _ (Sat.mono (Sat.bind k) fun q k2 => by
  by_cases e : (p.1 && q.1 && lim (p.2.length + q.2.length)) = true
  · rw [if_pos e] at k2
    rw [Bool.and_eq_true, Bool.and_eq_true] at e
    exact ⟨e.1.1, e.1.2, Nat.le_of_ble_eq_true e.2, k2⟩
  · rw [if_neg e] at k2
    exact k2.elim))
@[simp] def fIn (neg : Bool) (fa : FE) (fq : FQ) : FE := fun σ => (fa σ).bind fun x => (fq σ).bind fun p => if ((flatD x && p.2.all flatD) || (p.1 && (SeqAt.shaped x && SeqAt.shaped (.list p.2)))) = true then .ok (.bool (inD neg x p.2)) else .no
theorem le_in {neg : Bool} (ha : LeE (ofE E fa) da) (h : LeQ (ofQ E fq) dq) : LeE (ofE E (fIn neg fa fq)) (dIn neg da dq) := fun σ Q k => ha σ _ (Sat.mono (Sat.bind k) fun x k => h σ _ (Sat.mono (Sat.bind k) fun p k2 => by
  by_cases e : ((flatD x && p.2.all flatD) || (p.1 && (SeqAt.shaped x && SeqAt.shaped (.list p.2)))) = true
  · rw [if_pos e] at k2
    rw [Bool.or_eq_true, Bool.and_eq_true, Bool.and_eq_true, Bool.and_eq_true] at e
    rcases e with e | e
    · exact ⟨.inl e, k2⟩
    · exact ⟨.inr e, k2⟩
  · rw [if_neg e] at k2
    exact k2.elim))

section
variable {i j l : Nat} {aa : FA} {ad : DA} {la : FA} {dl : DL}
@[simp] def fPar3 (i j l : Nat) (aa : FA) : FS := fun σ => (aa σ).bind fun ds => match ds with
  | [d, d', d''] => .ok (.nx (((σ.set i (some (.dat d))).set j (some (.dat d'))).set l (some (.dat d''))))
  | _ => .no
theorem les_par3 (h : LeA (ofA E aa) ad) : LeS (ofS E (fPar3 i j l aa)) (dPar3 i j l ad) := fun D σ k => h σ _ (Sat.mono (Sat.bind k) fun ds k => by
  split at k
  · exact k
  · exact k.elim)
@[simp] def fPar3N (i j l : Nat) (fa fb : FE) (la : FA) : FS := fun σ => (fa σ).bind fun x => (fb σ).bind fun y => (la σ).bind fun ds => .ok (.nx (((σ.set i (some (.dat x))).set j (some (.dat y))).set l (some (.own ds))))
theorem les_par3N (h1 : LeE (ofE E fa) da) (h2 : LeE (ofE E fb) db) (h3 : LeL (ofL E la) dl) : LeS (ofS E (fPar3N i j l fa fb la)) (dPar3N i j l da db dl) := fun D σ k => h1 σ _ (Sat.mono (Sat.bind k) fun x k => h2 σ _ (Sat.mono (Sat.bind k) fun y k => h3 σ _ (Sat.mono (Sat.bind k) fun ds k => k)))
@[simp] def fParN (i j : Nat) (fa : FE) (la : FA) : FS := fun σ => (fa σ).bind fun x => (la σ).bind fun ds => .ok (.nx ((σ.set i (some (.dat x))).set j (some (.own ds))))
theorem les_parN (h1 : LeE (ofE E fa) da) (h3 : LeL (ofL E la) dl) : LeS (ofS E (fParN i j fa la)) (dParN i j da dl) := fun D σ k => h1 σ _ (Sat.mono (Sat.bind k) fun x k => h3 σ _ (Sat.mono (Sat.bind k) fun ds k => k))
end
end
def gRepA : PyData → PyData → Option PyData := fun x y => match x, y with
  | .tuple ds, .int k => if (!ds.isEmpty && decide (1 ≤ k) && Nat.ble k.toNat 1000 && Nat.ble ds.length 1000) = true then some (.tuple (List.replicate k.toNat ds).flatten) else none
  | _, _ => none
@[simp] theorem gRepA_t (ds : List PyData) (k : Int) : gRepA (.tuple ds) (.int k) = if (!ds.isEmpty && decide (1 ≤ k) && Nat.ble k.toNat 1000 && Nat.ble ds.length 1000) = true then some (.tuple (List.replicate k.toNat ds).flatten) else none := rfl
theorem leop_repA : LeOp gRepA fRepA := fun x y d Q e q => by
  unfold gRepA at e
  split at e
  · split at e
    · rename_i h
      cases e
      simp only [Bool.and_eq_true, Bool.not_eq_true', decide_eq_true_eq] at h
      have b1 := Nat.le_of_ble_eq_true h.1.2
      have b2 := Nat.le_of_ble_eq_true h.2
      refine ⟨fun z => ?_, h.1.1.2, by omega, b2, q⟩
      rw [z] at h
      simp at h
    · cases e
  · cases e
end Dl
end
section
set_option Elab.async false
set_option linter.all false
set_option maxRecDepth 100000
set_option maxHeartbeats 1000000
/-! is None, is not None; bit_length -/
namespace Dl
open PySem PySem.Spec PyProof.Rows L2 HbE Evl RZ Gx
section
variable {K : PySem.W.Frag} {Ps : List Addr}
def isN : PyData → Bool
  | .none => true
  | _ => false
theorem isN_dp {H : Hp} {v : V} {x : PyData} (h : Dp K H v x) : decide (v = .non) = isN x := by
  cases h <;> simp [isN]
def fIs (neg : Bool) : PyData → PyData → (PyData → Prop) → Prop := fun x y Q => match y with
  | .none => Q (.bool (if neg then !isN x else isN x))
  | _ => False
theorem op2_is : Op2 K Ps (fun x y H Q => y = .non ∧ Q (.bl (decide (x = .non))) H) (fIs false) := by
  intro M hs H v w x y Qd Q wf hx hy h k
  unfold fIs at h
  split at h
  · cases hy
    rw [isN_dp hx]
    exact ⟨rfl, k _ _ H h Step.refl (.bl _)⟩
  · exact h.elim
theorem op2_isnt : Op2 K Ps (fun x y H Q => y = .non ∧ Q (.bl (!decide (x = .non))) H) (fIs true) := by
  intro M hs H v w x y Qd Q wf hx hy h k
  unfold fIs at h
  split at h
  · cases hy
    rw [isN_dp hx]
    exact ⟨rfl, k _ _ H h Step.refl (.bl _)⟩
  · exact h.elim
def gIs (neg : Bool) : PyData → PyData → Option PyData := fun x y => match y with
  | .none => some (.bool (if neg then !isN x else isN x))
  | _ => none
@[simp] theorem gIs_none (neg : Bool) (x : PyData) : gIs neg x .none = some (.bool (if neg then !isN x else isN x)) := rfl
theorem leop_is {neg : Bool} : LeOp (gIs neg) (fIs neg) := fun x y d Q e q => by
  cases y <;> first | (cases e; exact q) | cases e
end
section
variable {X : Cx} {Ps : List Addr} {e : PySem.Expr} {pos apos : Pos} {de : DE} {E : Xn → Prop} {fa : FE}
/-- e.bit_length() -/
def dBits (de : DE) : DE := fun σ Q => de σ fun x => match x with
  | .int i => Q (.int (Builtin.Int.intBits i : Nat))
  | _ => False
theorem pd_bits (ho : PE X e (lift X.K Ps de)) (hbase : attributeBase e "bit_length" X.env (eval e X.env) = eval e X.env := by rfl) (hline : (apos.endLine == pos.line) = true := by rfl) : PE X (.Call (.Attribute e "bit_length" apos) [] [] pos) (lift X.K Ps (dBits de)) :=
  pe_weak (pe_bits ho hbase hline) fun σ H Q ⟨c, hs, as, σd, Qd, S, hd, k⟩ => ⟨c, hs, as, σd, _, S, hd, fun d v H' q s r => by
    split at q
    · cases r
      exact ⟨_, rfl, k _ _ H' q s (.int _)⟩
    · exact q.elim⟩
@[simp] def fBits (fa : FE) : FE := fun σ => (fa σ).bind fun x => (asI x).bind fun i => .ok (.int (Builtin.Int.intBits i : Nat))
theorem le_bits (ha : LeE (ofE E fa) de) : LeE (ofE E (fBits fa)) (dBits de) := fun σ Q h => ha σ _ (Sat.mono (Sat.bind h) fun x h => by
  obtain ⟨i, rfl, h⟩ := Sat.asI (Sat.bind h)
  exact h)
end
end Dl
end
section
set_option Elab.async false
set_option linter.all false
set_option maxRecDepth 100000
set_option maxHeartbeats 1000000
namespace Q
open PySem PySem.Spec PyProof.Rows L2 HbE Evl Dl RZ Gx
def topS (i : Nat) : Stmt := PySem.Challenge.pw_hardbits_k31_whole_draws_and_hybrids.main.body.getD i (.Pass ⟨0, 0, 0, 0⟩)
section
variable {P : Program} {w : World} {K : PySem.W.Frag} {mg : Str → Option Value} {base : Heap} {Ps : List Addr}
abbrev s_is_integer : Stmt := topS 3
abbrev N_is_integer : List PySem.Str := ["value"]
theorem sc_is_integer : FnScope N_is_integer ["value"] (defScope s_is_integer) := ⟨rfl, rfl, rfl, by decide +kernel, rfl, by decide +kernel, by decide +kernel⟩
def fs_is_integer : FS :=
  fRet (fAndV (fIsi "int" (fVar 0)) (fNotV (fIsi "bool" (fVar 0))))
def F_is_integer : FF := mkF 1 N_is_integer.length fs_is_integer
theorem ok_is_integer {f : Addr} {fd : FuncData} {k : Nat} (F : Fun K "is_integer" "is_integer" s_is_integer f fd)
    (z_isinstance : mg "isinstance" = none)
    (z_int : mg "int" = none)
    (z_bool : mg "bool" = none) : FnOk P w K mg base CX0 (k + 1) f fd ["value"] (spOf K Ps (ofF E0 F_is_integer)) :=
  okF (N := N_is_integer) (n := 1) (fs := fs_is_integer) F sc_is_integer rfl fun cdv A outer s H E hr => ⟨_, (have nd := sc_is_integer.nd
    psd_one (psd_ret (pd_and (pd_isi (by decide +kernel) (pd_var (pv 0)) (by rfl) z_isinstance (pe_bltn (by rfl) z_int PyProof.Rows.Boot.«int» rfl)) (pe_one (pd_not (pd_isi (by decide +kernel) (pd_var (pv 0)) (by rfl) z_isinstance (pe_bltn (by rfl) z_bool PyProof.Rows.Boot.«bool» rfl))))))),
    (les_ret (le_andV (le_isi (le_var)) (le_notV (le_isi (le_var)))))⟩
abbrev s_is_short : Stmt := topS 4
abbrev N_is_short : List PySem.Str := ["value"]
theorem sc_is_short : FnScope N_is_short ["value"] (defScope s_is_short) := ⟨rfl, rfl, rfl, by decide +kernel, rfl, by decide +kernel, by decide +kernel⟩
def fs_is_short : FS :=
  fRet (fAndV (fCall F_is_integer (fCons (fVar 0) (fNil))) (fChain (gI0 fun i j => .bool (decide (i ≤ j))) (gI0 fun i j => .bool (decide (i ≤ j))) (fNeg (fC (.int 999999999))) (fVar 0) (fC (.int 999999999))))
def F_is_short : FF := mkF 1 N_is_short.length fs_is_short
theorem ok_is_short {f : Addr} {fd : FuncData} {k : Nat} (F : Fun K "is_short" "is_short" s_is_short f fd)
    {tk_LONGEST : Tok} (c_LONGEST : mg "LONGEST" = some (.int 999999999 tk_LONGEST))
    {f_is_integer : Addr} {d_is_integer : FuncData} {l_is_integer : Nat} (h_is_integer : l_is_integer ≤ k) (G_is_integer : FnOk P w K mg base CX0 l_is_integer f_is_integer d_is_integer ["value"] (spOf K Ps (ofF E0 F_is_integer))) (g_is_integer : mg "is_integer" = some (.ref f_is_integer)) (k_is_integer : PySem.W.keepIn K (.ref f_is_integer) = true) (b_is_integer : Binds K d_is_integer ["value"] []) : FnOk P w K mg base CX0 (k + 1) f fd ["value"] (spOf K Ps (ofF E0 F_is_short)) :=
  okF (N := N_is_short) (n := 1) (fs := fs_is_short) F sc_is_short rfl fun cdv A outer s H E hr => ⟨_, (have nd := sc_is_short.nd
    psd_one (psd_ret (pd_and (pd_call G_is_integer (hr.mono (by omega)) (by rfl) g_is_integer k_is_integer b_is_integer (pda_cons (pw_dat (pd_var (pv 0))) (pda_nil))) (pe_one (pd_chain op_le op_le (op2_I0 fun _ _ _ _ => .bl _) (op2_I0 fun _ _ _ _ => .bl _) (pd_neg (pd_c (pe_glob (v := V.int 999999999) (by rfl) c_LONGEST ⟨_, rfl⟩) (fun _ _ => .int _))) (pd_var (pv 0)) (pd_c (pe_glob (v := V.int 999999999) (by rfl) c_LONGEST ⟨_, rfl⟩) (fun _ _ => .int _))))))),
    (les_ret (le_andV (le_call (le_cons (le_var) (le_nil))) (le_chain (leop_I0) (leop_I0) (le_neg (le_c)) (le_var) (le_c))))⟩
abbrev s_is_between : Stmt := topS 5
abbrev N_is_between : List PySem.Str := ["value", "low", "high"]
theorem sc_is_between : FnScope N_is_between ["value", "low", "high"] (defScope s_is_between) := ⟨rfl, rfl, rfl, by decide +kernel, rfl, by decide +kernel, by decide +kernel⟩
def fs_is_between : FS :=
  fRet (fAndV (fCall F_is_integer (fCons (fVar 0) (fNil))) (fChain (gI0 fun i j => .bool (decide (i ≤ j))) (gI0 fun i j => .bool (decide (i ≤ j))) (fVar 1) (fVar 0) (fVar 2)))
def F_is_between : FF := mkF 3 N_is_between.length fs_is_between
theorem ok_is_between {f : Addr} {fd : FuncData} {k : Nat} (F : Fun K "is_between" "is_between" s_is_between f fd)
    {f_is_integer : Addr} {d_is_integer : FuncData} {l_is_integer : Nat} (h_is_integer : l_is_integer ≤ k) (G_is_integer : FnOk P w K mg base CX0 l_is_integer f_is_integer d_is_integer ["value"] (spOf K Ps (ofF E0 F_is_integer))) (g_is_integer : mg "is_integer" = some (.ref f_is_integer)) (k_is_integer : PySem.W.keepIn K (.ref f_is_integer) = true) (b_is_integer : Binds K d_is_integer ["value"] []) : FnOk P w K mg base CX0 (k + 1) f fd ["value", "low", "high"] (spOf K Ps (ofF E0 F_is_between)) :=
  okF (N := N_is_between) (n := 3) (fs := fs_is_between) F sc_is_between rfl fun cdv A outer s H E hr => ⟨_, (have nd := sc_is_between.nd
    psd_one (psd_ret (pd_and (pd_call G_is_integer (hr.mono (by omega)) (by rfl) g_is_integer k_is_integer b_is_integer (pda_cons (pw_dat (pd_var (pv 0))) (pda_nil))) (pe_one (pd_chain op_le op_le (op2_I0 fun _ _ _ _ => .bl _) (op2_I0 fun _ _ _ _ => .bl _) (pd_var (pv 1)) (pd_var (pv 0)) (pd_var (pv 2))))))),
    (les_ret (le_andV (le_call (le_cons (le_var) (le_nil))) (le_chain (leop_I0) (leop_I0) (le_var) (le_var) (le_var))))⟩
abbrev s_is_bit : Stmt := topS 6
abbrev N_is_bit : List PySem.Str := ["value"]
theorem sc_is_bit : FnScope N_is_bit ["value"] (defScope s_is_bit) := ⟨rfl, rfl, rfl, by decide +kernel, rfl, by decide +kernel, by decide +kernel⟩
def fs_is_bit : FS :=
  fRet (fCall F_is_between (fCons (fVar 0) (fCons (fC (.int 0)) (fCons (fC (.int 1)) (fNil)))))
def F_is_bit : FF := mkF 1 N_is_bit.length fs_is_bit
theorem ok_is_bit {f : Addr} {fd : FuncData} {k : Nat} (F : Fun K "is_bit" "is_bit" s_is_bit f fd)
    {f_is_between : Addr} {d_is_between : FuncData} {l_is_between : Nat} (h_is_between : l_is_between ≤ k) (G_is_between : FnOk P w K mg base CX0 l_is_between f_is_between d_is_between ["value", "low", "high"] (spOf K Ps (ofF E0 F_is_between))) (g_is_between : mg "is_between" = some (.ref f_is_between)) (k_is_between : PySem.W.keepIn K (.ref f_is_between) = true) (b_is_between : Binds K d_is_between ["value", "low", "high"] []) : FnOk P w K mg base CX0 (k + 1) f fd ["value"] (spOf K Ps (ofF E0 F_is_bit)) :=
  okF (N := N_is_bit) (n := 1) (fs := fs_is_bit) F sc_is_bit rfl fun cdv A outer s H E hr => ⟨_, (have nd := sc_is_bit.nd
    psd_one (psd_ret (pd_call G_is_between (hr.mono (by omega)) (by rfl) g_is_between k_is_between b_is_between (pda_cons (pw_dat (pd_var (pv 0))) (pda_cons (pw_dat (pd_c pe_int (fun _ _ => .int _))) (pda_cons (pw_dat (pd_c pe_int (fun _ _ => .int _))) (pda_nil))))))),
    (les_ret (le_call (le_cons (le_var) (le_cons (le_c) (le_cons (le_c) (le_nil))))))⟩
abbrev s_is_tuple_of : Stmt := topS 7
abbrev N_is_tuple_of : List PySem.Str := ["value", "length"]
theorem sc_is_tuple_of : FnScope N_is_tuple_of ["value", "length"] (defScope s_is_tuple_of) := ⟨rfl, rfl, rfl, by decide +kernel, rfl, by decide +kernel, by decide +kernel⟩
def fs_is_tuple_of : FS :=
  fRet (fAndV (fIsi "tuple" (fVar 0)) (fOp (gEq false) (fOpQ gLen (fVarQ 0)) (fVar 1)))
def F_is_tuple_of : FF := mkF 2 N_is_tuple_of.length fs_is_tuple_of
theorem ok_is_tuple_of {f : Addr} {fd : FuncData} {k : Nat} (F : Fun K "is_tuple_of" "is_tuple_of" s_is_tuple_of f fd)
    (z_isinstance : mg "isinstance" = none)
    (z_tuple : mg "tuple" = none)
    (z_len : mg "len" = none) : FnOk P w K mg base CX0 (k + 1) f fd ["value", "length"] (spOf K Ps (ofF E0 F_is_tuple_of)) :=
  okF (N := N_is_tuple_of) (n := 2) (fs := fs_is_tuple_of) F sc_is_tuple_of rfl fun cdv A outer s H E hr => ⟨_, (have nd := sc_is_tuple_of.nd
    psd_one (psd_ret (pd_and (pd_isi (by decide +kernel) (pd_var (pv 0)) (by rfl) z_isinstance (pe_bltn (by rfl) z_tuple PyProof.Rows.Boot.«tuple» rfl)) (pe_one (pd_cmp (op_eqD hr.units) (op2_eq) (pd_len (by rfl) z_len (pq_var (pv 0))) (pd_var (pv 1)) (nomark _)))))),
    (les_ret (le_andV (le_isi (le_var)) (le_op (leop_eq) (le_opQ leq_len (le_varQ)) (le_var))))⟩
abbrev s_is_word : Stmt := topS 8
abbrev N_is_word : List PySem.Str := ["value", "length", "bit"]
theorem sc_is_word : FnScope N_is_word ["value", "length"] (defScope s_is_word) := ⟨rfl, rfl, rfl, by decide +kernel, rfl, by decide +kernel, by decide +kernel⟩
def fs_is_word : FS :=
  fRet (fAndV (fCall F_is_tuple_of (fCons (fVar 0) (fCons (fVar 1) (fNil)))) (fAll (fItS (fVar 0)) (fgSet 2) (fYes) (fCall F_is_bit (fCons (fVar 2) (fNil))) [2]))
def F_is_word : FF := mkF 2 N_is_word.length fs_is_word
theorem ok_is_word {f cc PP : Addr} {fd : FuncData} {k : Nat} (F : FunC K "is_word" "is_word" s_is_word cc f fd)
    (z_all : mg "all" = none)
    (h2 : 2 ≤ k) (TB : GxR.TabB base mg cc PP) (hPP : PP ∈ Ps)
    {f_is_tuple_of : Addr} {d_is_tuple_of : FuncData} {l_is_tuple_of : Nat} (h_is_tuple_of : l_is_tuple_of + 2 ≤ k) (G_is_tuple_of : FnOk P w K mg base CX0 l_is_tuple_of f_is_tuple_of d_is_tuple_of ["value", "length"] (spOf K Ps (ofF E0 F_is_tuple_of))) (g_is_tuple_of : mg "is_tuple_of" = some (.ref f_is_tuple_of)) (k_is_tuple_of : PySem.W.keepIn K (.ref f_is_tuple_of) = true) (b_is_tuple_of : Binds K d_is_tuple_of ["value", "length"] [])
    {f_is_bit : Addr} {d_is_bit : FuncData} {l_is_bit : Nat} (h_is_bit : l_is_bit + 2 ≤ k) (G_is_bit : FnOk P w K mg base CX0 l_is_bit f_is_bit d_is_bit ["value"] (spOf K Ps (ofF E0 F_is_bit))) (g_is_bit : mg "is_bit" = some (.ref f_is_bit)) (k_is_bit : PySem.W.keepIn K (.ref f_is_bit) = true) (b_is_bit : Binds K d_is_bit ["value"] []) : FnOk P w K mg base CX0 (k + 1) f fd ["value", "length"] (spOf K Ps (ofF E0 F_is_word)) :=
  okFC (N := N_is_word) (n := 2) (fs := fs_is_word) F sc_is_word rfl fun A outer s H E hr => ⟨_, (have nd := sc_is_word.nd
    psd_one (psd_ret (pd_and (pd_call G_is_tuple_of (hr.mono (by omega)) (by rfl) g_is_tuple_of k_is_tuple_of b_is_tuple_of (pda_cons (pw_dat (pd_var (pv 0))) (pda_cons (pw_dat (pd_var (pv 1))) (pda_nil)))) (pe_one (pd_all (k := k - 2) (own := [("bit", 2)]) (hr.mono (by omega)) (by rfl) z_all TB hPP rfl nd rfl (by decide +kernel) rfl (blkOk_by (N := N_is_word) (sc := defScope s_is_word) (by decide +kernel)) (pid_seq (pd_var (pv 0))) (fun _ _ _ _ _ _ _ hr => pgd_name (pg_name (i := 2) nd rfl (by first | exact Or.inl rfl | exact Or.inr rfl))) (fun _ _ _ _ _ _ _ hr => ptsd_nil) (fun _ _ _ _ _ _ _ hr => pd_call G_is_bit (hr.mono (by omega)) (by rfl) g_is_bit k_is_bit b_is_bit (pda_cons (pw_dat (pd_var (pv 2))) (pda_nil)))))))),
    (les_ret (le_andV (le_call (le_cons (le_var) (le_cons (le_var) (le_nil)))) (le_all (le_itS (le_var)) (le_gSet) (le_yes) (le_call (le_cons (le_var) (le_nil))))))⟩
abbrev s_is_row_within : Stmt := topS 9
abbrev N_is_row_within : List PySem.Str := ["value", "least", "most", "bottom", "numbers", "number"]
theorem sc_is_row_within : FnScope N_is_row_within ["value", "least", "most"] (defScope s_is_row_within) := ⟨rfl, rfl, rfl, by decide +kernel, rfl, by decide +kernel, by decide +kernel⟩
def fs_is_row_within : FS :=
  fSeq (fIf (fNot (fTest (fCall F_is_tuple_of (fCons (fVar 0) (fCons (fC (.int 2)) (fNil)))))) (fRet (fC (.bool false))) (fNext))
    (fSeq (fAsgG (fgTup 2 (fgsCons (fgSet 3) (fgsCons (fgSet 4) (fgsNil)))) (fVar 0))
    (fSeq (fIf (fOr (fNot (fTest (fCall F_is_integer (fCons (fVar 3) (fNil))))) (fOr (fTest (fOp (gI0 fun i j => .bool (decide (i < j))) (fVar 3) (fC (.int 1)))) (fNot (fTest (fIsi "tuple" (fVar 4)))))) (fRet (fC (.bool false))) (fNext))
    (fRet (fAndV (fChain (gI0 fun i j => .bool (decide (i ≤ j))) (gI0 fun i j => .bool (decide (i ≤ j))) (fVar 1) (fOpQ gLen (fVarQ 4)) (fVar 2)) (fAll (fItS (fVar 4)) (fgSet 5) (fYes) (fCall F_is_integer (fCons (fVar 5) (fNil))) [5])))))
def F_is_row_within : FF := mkF 3 N_is_row_within.length fs_is_row_within
theorem ok_is_row_within {f cc PP : Addr} {fd : FuncData} {k : Nat} (F : FunC K "is_row_within" "is_row_within" s_is_row_within cc f fd)
    (z_isinstance : mg "isinstance" = none)
    (z_tuple : mg "tuple" = none)
    (z_len : mg "len" = none)
    (z_all : mg "all" = none)
    (h2 : 2 ≤ k) (TB : GxR.TabB base mg cc PP) (hPP : PP ∈ Ps)
    {f_is_tuple_of : Addr} {d_is_tuple_of : FuncData} {l_is_tuple_of : Nat} (h_is_tuple_of : l_is_tuple_of + 2 ≤ k) (G_is_tuple_of : FnOk P w K mg base CX0 l_is_tuple_of f_is_tuple_of d_is_tuple_of ["value", "length"] (spOf K Ps (ofF E0 F_is_tuple_of))) (g_is_tuple_of : mg "is_tuple_of" = some (.ref f_is_tuple_of)) (k_is_tuple_of : PySem.W.keepIn K (.ref f_is_tuple_of) = true) (b_is_tuple_of : Binds K d_is_tuple_of ["value", "length"] [])
    {f_is_integer : Addr} {d_is_integer : FuncData} {l_is_integer : Nat} (h_is_integer : l_is_integer + 2 ≤ k) (G_is_integer : FnOk P w K mg base CX0 l_is_integer f_is_integer d_is_integer ["value"] (spOf K Ps (ofF E0 F_is_integer))) (g_is_integer : mg "is_integer" = some (.ref f_is_integer)) (k_is_integer : PySem.W.keepIn K (.ref f_is_integer) = true) (b_is_integer : Binds K d_is_integer ["value"] []) : FnOk P w K mg base CX0 (k + 1) f fd ["value", "least", "most"] (spOf K Ps (ofF E0 F_is_row_within)) :=
  okFC (N := N_is_row_within) (n := 3) (fs := fs_is_row_within) F sc_is_row_within rfl fun A outer s H E hr => ⟨_, (have nd := sc_is_row_within.nd
    psd_cons (psd_if (ptd_not (ptd_bool (pd_call G_is_tuple_of (hr.mono (by omega)) (by rfl) g_is_tuple_of k_is_tuple_of b_is_tuple_of (pda_cons (pw_dat (pd_var (pv 0))) (pda_cons (pw_dat (pd_c pe_int (fun _ _ => .int _))) (pda_nil)))))) (psd_one (psd_ret (pd_c pe_bl (fun _ _ => .bl _)))) (psd_nil))
    (psd_cons (psd_asgG (pd_var (pv 0)) (pgd_tup rfl (pgsd_cons (pgd_name (pg_name (i := 3) nd rfl (by first | exact Or.inl rfl | exact Or.inr rfl))) (pgsd_cons (pgd_name (pg_name (i := 4) nd rfl (by first | exact Or.inl rfl | exact Or.inr rfl))) (pgsd_nil)))))
    (psd_cons (psd_if (PW.pt (pwd_or (ptd_not (ptd_bool (pd_call G_is_integer (hr.mono (by omega)) (by rfl) g_is_integer k_is_integer b_is_integer (pda_cons (pw_dat (pd_var (pv 3))) (pda_nil))))) (pwd_or (pt_d_cmp op_lt (op2_I0 fun _ _ _ _ => .bl _) (pd_var (pv 3)) (pd_c pe_int (fun _ _ => .int _)) (nomark _)) (pwd_or1 (ptd_not (ptd_bool (pd_isi (by decide +kernel) (pd_var (pv 4)) (by rfl) z_isinstance (pe_bltn (by rfl) z_tuple PyProof.Rows.Boot.«tuple» rfl)))))))) (psd_one (psd_ret (pd_c pe_bl (fun _ _ => .bl _)))) (psd_nil))
    (psd_one (psd_ret (pd_and (pd_chain op_le op_le (op2_I0 fun _ _ _ _ => .bl _) (op2_I0 fun _ _ _ _ => .bl _) (pd_var (pv 1)) (pd_len (by rfl) z_len (pq_var (pv 4))) (pd_var (pv 2))) (pe_one (pd_all (k := k - 2) (own := [("number", 5)]) (hr.mono (by omega)) (by rfl) z_all TB hPP rfl nd rfl (by decide +kernel) rfl (blkOk_by (N := N_is_row_within) (sc := defScope s_is_row_within) (by decide +kernel)) (pid_seq (pd_var (pv 4))) (fun _ _ _ _ _ _ _ hr => pgd_name (pg_name (i := 5) nd rfl (by first | exact Or.inl rfl | exact Or.inr rfl))) (fun _ _ _ _ _ _ _ hr => ptsd_nil) (fun _ _ _ _ _ _ _ hr => pd_call G_is_integer (hr.mono (by omega)) (by rfl) g_is_integer k_is_integer b_is_integer (pda_cons (pw_dat (pd_var (pv 5))) (pda_nil))))))))))),
    (les_seq (les_if (le_notT (le_test (le_call (le_cons (le_var) (le_cons (le_c) (le_nil)))))) (les_ret (le_c)) (les_next))
    (les_seq (les_asgG (le_gTup (le_gsCons (le_gSet) (le_gsCons (le_gSet) (le_gsNil)))) (le_var))
    (les_seq (les_if (le_orT (le_notT (le_test (le_call (le_cons (le_var) (le_nil))))) (le_orT (le_test (le_op (leop_I0) (le_var) (le_c))) (le_notT (le_test (le_isi (le_var)))))) (les_ret (le_c)) (les_next))
    (les_ret (le_andV (le_chain (leop_I0) (leop_I0) (le_var) (le_opQ leq_len (le_varQ)) (le_var)) (le_all (le_itS (le_var)) (le_gSet) (le_yes) (le_call (le_cons (le_var) (le_nil)))))))))⟩
abbrev s_is_weights : Stmt := topS 10
abbrev N_is_weights : List PySem.Str := ["value", "count"]
theorem sc_is_weights : FnScope N_is_weights ["value", "count"] (defScope s_is_weights) := ⟨rfl, rfl, rfl, by decide +kernel, rfl, by decide +kernel, by decide +kernel⟩
def fs_is_weights : FS :=
  fRet (fAndV (fCall F_is_row_within (fCons (fVar 0) (fCons (fVar 1) (fCons (fVar 1) (fNil))))) (fOp (gI0 fun i j => .bool (decide (j ≤ i))) (fOpQ gMin (fSeqE (fIx (fVarQ 0) (fC (.int 1))))) (fC (.int 0))))
def F_is_weights : FF := mkF 2 N_is_weights.length fs_is_weights
theorem ok_is_weights {f : Addr} {fd : FuncData} {k : Nat} (F : Fun K "is_weights" "is_weights" s_is_weights f fd)
    (z_min : mg "min" = none)
    {f_is_row_within : Addr} {d_is_row_within : FuncData} {l_is_row_within : Nat} (h_is_row_within : l_is_row_within ≤ k) (G_is_row_within : FnOk P w K mg base CX0 l_is_row_within f_is_row_within d_is_row_within ["value", "least", "most"] (spOf K Ps (ofF E0 F_is_row_within))) (g_is_row_within : mg "is_row_within" = some (.ref f_is_row_within)) (k_is_row_within : PySem.W.keepIn K (.ref f_is_row_within) = true) (b_is_row_within : Binds K d_is_row_within ["value", "least", "most"] []) : FnOk P w K mg base CX0 (k + 1) f fd ["value", "count"] (spOf K Ps (ofF E0 F_is_weights)) :=
  okF (N := N_is_weights) (n := 2) (fs := fs_is_weights) F sc_is_weights rfl fun cdv A outer s H E hr => ⟨_, (have nd := sc_is_weights.nd
    psd_one (psd_ret (pd_and (pd_call G_is_row_within (hr.mono (by omega)) (by rfl) g_is_row_within k_is_row_within b_is_row_within (pda_cons (pw_dat (pd_var (pv 0))) (pda_cons (pw_dat (pd_var (pv 1))) (pda_cons (pw_dat (pd_var (pv 1))) (pda_nil))))) (pe_one (pd_cmp op_ge (op2_I0 fun _ _ _ _ => .bl _) (pd_callQ (cr_minS rfl hr.units) opq_minS (by rfl) z_min Dl.b_min (pq_dat (pd_ix (pq_var (pv 0)) (pd_c pe_int (fun _ _ => .int _)) (fun _ _ => rfl)))) (pd_c pe_int (fun _ _ => .int _)) (nomark _)))))),
    (les_ret (le_andV (le_call (le_cons (le_var) (le_cons (le_var) (le_cons (le_var) (le_nil))))) (le_op (leop_I0) (le_opQ leq_min (le_seqE (le_ix (le_varQ) (le_c)))) (le_c))))⟩
abbrev s_is_mix : Stmt := topS 11
abbrev N_is_mix : List PySem.Str := ["value", "count"]
theorem sc_is_mix : FnScope N_is_mix ["value", "count"] (defScope s_is_mix) := ⟨rfl, rfl, rfl, by decide +kernel, rfl, by decide +kernel, by decide +kernel⟩
def fs_is_mix : FS :=
  fRet (fAndV (fCall F_is_weights (fCons (fVar 0) (fCons (fVar 1) (fNil)))) (fOp (gEq false) (fOpQ gSum (fSeqE (fIx (fVarQ 0) (fC (.int 1))))) (fIx (fVarQ 0) (fC (.int 0)))))
def F_is_mix : FF := mkF 2 N_is_mix.length fs_is_mix
theorem ok_is_mix {f : Addr} {fd : FuncData} {k : Nat} (F : Fun K "is_mix" "is_mix" s_is_mix f fd)
    (z_sum : mg "sum" = none)
    {f_is_weights : Addr} {d_is_weights : FuncData} {l_is_weights : Nat} (h_is_weights : l_is_weights ≤ k) (G_is_weights : FnOk P w K mg base CX0 l_is_weights f_is_weights d_is_weights ["value", "count"] (spOf K Ps (ofF E0 F_is_weights))) (g_is_weights : mg "is_weights" = some (.ref f_is_weights)) (k_is_weights : PySem.W.keepIn K (.ref f_is_weights) = true) (b_is_weights : Binds K d_is_weights ["value", "count"] []) : FnOk P w K mg base CX0 (k + 1) f fd ["value", "count"] (spOf K Ps (ofF E0 F_is_mix)) :=
  okF (N := N_is_mix) (n := 2) (fs := fs_is_mix) F sc_is_mix rfl fun cdv A outer s H E hr => ⟨_, (have nd := sc_is_mix.nd
    psd_one (psd_ret (pd_and (pd_call G_is_weights (hr.mono (by omega)) (by rfl) g_is_weights k_is_weights b_is_weights (pda_cons (pw_dat (pd_var (pv 0))) (pda_cons (pw_dat (pd_var (pv 1))) (pda_nil)))) (pe_one (pd_cmp (op_eqD hr.units) (op2_eq) (pd_callQ (cr_sumS rfl) opq_sumS (by rfl) z_sum Dl.b_sum (pq_dat (pd_ix (pq_var (pv 0)) (pd_c pe_int (fun _ _ => .int _)) (fun _ _ => rfl)))) (pd_ix (pq_var (pv 0)) (pd_c pe_int (fun _ _ => .int _)) (fun _ _ => rfl)) (nomark _)))))),
    (les_ret (le_andV (le_call (le_cons (le_var) (le_cons (le_var) (le_nil)))) (le_op (leop_eq) (le_opQ leq_sum (le_seqE (le_ix (le_varQ) (le_c)))) (le_ix (le_varQ) (le_c)))))⟩
abbrev s_need_number : Stmt := topS 18
abbrev N_need_number : List PySem.Str := ["value", "low", "high"]
theorem sc_need_number : FnScope N_need_number ["value", "low", "high"] (defScope s_need_number) := ⟨rfl, rfl, rfl, by decide +kernel, rfl, by decide +kernel, by decide +kernel⟩
def fs_need_number : FS :=
  fIf (fNot (fTest (fCall F_is_between (fCons (fVar 0) (fCons (fVar 1) (fCons (fVar 2) (fNil))))))) (fRaise ⟨"InvalidNumber", none⟩) (fNext)
def F_need_number : FF := mkF 3 N_need_number.length fs_need_number
theorem ok_need_number {f : Addr} {fd : FuncData} {k : Nat} (F : Fun K "need_number" "need_number" s_need_number f fd)
    {f_is_between : Addr} {d_is_between : FuncData} {l_is_between : Nat} (h_is_between : l_is_between ≤ k) (G_is_between : FnOk P w K mg base CX0 l_is_between f_is_between d_is_between ["value", "low", "high"] (spOf K Ps (ofF E0 F_is_between))) (g_is_between : mg "is_between" = some (.ref f_is_between)) (k_is_between : PySem.W.keepIn K (.ref f_is_between) = true) (b_is_between : Binds K d_is_between ["value", "low", "high"] []) : FnOk P w K mg base CX0 (k + 1) f fd ["value", "low", "high"] (spOf K Ps (ofF E0 F_need_number)) :=
  okF (N := N_need_number) (n := 3) (fs := fs_need_number) F sc_need_number rfl fun cdv A outer s H E hr => ⟨_, (have nd := sc_need_number.nd
    psd_one (psd_if (ptd_not (ptd_bool (pd_call G_is_between (hr.mono (by omega)) (by rfl) g_is_between k_is_between b_is_between (pda_cons (pw_dat (pd_var (pv 0))) (pda_cons (pw_dat (pd_var (pv 1))) (pda_cons (pw_dat (pd_var (pv 2))) (pda_nil))))))) (psd_one (psd_raise)) (psd_nil))),
    (les_if (le_notT (le_test (le_call (le_cons (le_var) (le_cons (le_var) (le_cons (le_var) (le_nil))))))) (les_raise) (les_next))⟩
abbrev s_need_draw : Stmt := topS 19
abbrev N_need_draw : List PySem.Str := ["value", "count"]
theorem sc_need_draw : FnScope N_need_draw ["value", "count"] (defScope s_need_draw) := ⟨rfl, rfl, rfl, by decide +kernel, rfl, by decide +kernel, by decide +kernel⟩
def fs_need_draw : FS :=
  fIf (fNot (fTest (fCall F_is_mix (fCons (fVar 0) (fCons (fVar 1) (fNil)))))) (fRaise ⟨"InvalidDraw", none⟩) (fNext)
def F_need_draw : FF := mkF 2 N_need_draw.length fs_need_draw
theorem ok_need_draw {f : Addr} {fd : FuncData} {k : Nat} (F : Fun K "need_draw" "need_draw" s_need_draw f fd)
    {f_is_mix : Addr} {d_is_mix : FuncData} {l_is_mix : Nat} (h_is_mix : l_is_mix ≤ k) (G_is_mix : FnOk P w K mg base CX0 l_is_mix f_is_mix d_is_mix ["value", "count"] (spOf K Ps (ofF E0 F_is_mix))) (g_is_mix : mg "is_mix" = some (.ref f_is_mix)) (k_is_mix : PySem.W.keepIn K (.ref f_is_mix) = true) (b_is_mix : Binds K d_is_mix ["value", "count"] []) : FnOk P w K mg base CX0 (k + 1) f fd ["value", "count"] (spOf K Ps (ofF E0 F_need_draw)) :=
  okF (N := N_need_draw) (n := 2) (fs := fs_need_draw) F sc_need_draw rfl fun cdv A outer s H E hr => ⟨_, (have nd := sc_need_draw.nd
    psd_one (psd_if (ptd_not (ptd_bool (pd_call G_is_mix (hr.mono (by omega)) (by rfl) g_is_mix k_is_mix b_is_mix (pda_cons (pw_dat (pd_var (pv 0))) (pda_cons (pw_dat (pd_var (pv 1))) (pda_nil)))))) (psd_one (psd_raise)) (psd_nil))),
    (les_if (le_notT (le_test (le_call (le_cons (le_var) (le_cons (le_var) (le_nil)))))) (les_raise) (les_next))⟩
abbrev s_need_word : Stmt := topS 20
abbrev N_need_word : List PySem.Str := ["value", "length"]
theorem sc_need_word : FnScope N_need_word ["value", "length"] (defScope s_need_word) := ⟨rfl, rfl, rfl, by decide +kernel, rfl, by decide +kernel, by decide +kernel⟩
def fs_need_word : FS :=
  fIf (fNot (fTest (fCall F_is_word (fCons (fVar 0) (fCons (fVar 1) (fNil)))))) (fRaise ⟨"InvalidWord", none⟩) (fNext)
def F_need_word : FF := mkF 2 N_need_word.length fs_need_word
theorem ok_need_word {f : Addr} {fd : FuncData} {k : Nat} (F : Fun K "need_word" "need_word" s_need_word f fd)
    {f_is_word : Addr} {d_is_word : FuncData} {l_is_word : Nat} (h_is_word : l_is_word ≤ k) (G_is_word : FnOk P w K mg base CX0 l_is_word f_is_word d_is_word ["value", "length"] (spOf K Ps (ofF E0 F_is_word))) (g_is_word : mg "is_word" = some (.ref f_is_word)) (k_is_word : PySem.W.keepIn K (.ref f_is_word) = true) (b_is_word : Binds K d_is_word ["value", "length"] []) : FnOk P w K mg base CX0 (k + 1) f fd ["value", "length"] (spOf K Ps (ofF E0 F_need_word)) :=
  okF (N := N_need_word) (n := 2) (fs := fs_need_word) F sc_need_word rfl fun cdv A outer s H E hr => ⟨_, (have nd := sc_need_word.nd
    psd_one (psd_if (ptd_not (ptd_bool (pd_call G_is_word (hr.mono (by omega)) (by rfl) g_is_word k_is_word b_is_word (pda_cons (pw_dat (pd_var (pv 0))) (pda_cons (pw_dat (pd_var (pv 1))) (pda_nil)))))) (psd_one (psd_raise)) (psd_nil))),
    (les_if (le_notT (le_test (le_call (le_cons (le_var) (le_cons (le_var) (le_nil)))))) (les_raise) (les_next))⟩
abbrev s_need_table : Stmt := topS 21
abbrev N_need_table : List PySem.Str := ["value", "bits"]
theorem sc_need_table : FnScope N_need_table ["value", "bits"] (defScope s_need_table) := ⟨rfl, rfl, rfl, by decide +kernel, rfl, by decide +kernel, by decide +kernel⟩
def fs_need_table : FS :=
  fIf (fNot (fTest (fCall F_is_word (fCons (fVar 0) (fCons (fOp (gI cShl fun i j => .int (i * 2 ^ j.toNat)) (fC (.int 1)) (fVar 1)) (fNil)))))) (fRaise ⟨"InvalidWord", none⟩) (fNext)
def F_need_table : FF := mkF 2 N_need_table.length fs_need_table
theorem ok_need_table {f : Addr} {fd : FuncData} {k : Nat} (F : Fun K "need_table" "need_table" s_need_table f fd)
    {f_is_word : Addr} {d_is_word : FuncData} {l_is_word : Nat} (h_is_word : l_is_word ≤ k) (G_is_word : FnOk P w K mg base CX0 l_is_word f_is_word d_is_word ["value", "length"] (spOf K Ps (ofF E0 F_is_word))) (g_is_word : mg "is_word" = some (.ref f_is_word)) (k_is_word : PySem.W.keepIn K (.ref f_is_word) = true) (b_is_word : Binds K d_is_word ["value", "length"] []) : FnOk P w K mg base CX0 (k + 1) f fd ["value", "bits"] (spOf K Ps (ofF E0 F_need_table)) :=
  okF (N := N_need_table) (n := 2) (fs := fs_need_table) F sc_need_table rfl fun cdv A outer s H E hr => ⟨_, (have nd := sc_need_table.nd
    psd_one (psd_if (ptd_not (ptd_bool (pd_call G_is_word (hr.mono (by omega)) (by rfl) g_is_word k_is_word b_is_word (pda_cons (pw_dat (pd_var (pv 0))) (pda_cons (pw_dat (pd_op op_shlW (op2_I fun _ _ _ _ => .int _) (pd_c pe_int (fun _ _ => .int _)) (pd_var (pv 1)))) (pda_nil)))))) (psd_one (psd_raise)) (psd_nil))),
    (les_if (le_notT (le_test (le_call (le_cons (le_var) (le_cons (le_op (leop_I cShl_ok) (le_c) (le_var)) (le_nil)))))) (les_raise) (les_next))⟩
abbrev s_spelled : Stmt := topS 23
abbrev N_spelled : List PySem.Str := ["number", "length", "place"]
theorem sc_spelled : FnScope N_spelled ["number", "length"] (defScope s_spelled) := ⟨rfl, rfl, rfl, by decide +kernel, rfl, by decide +kernel, by decide +kernel⟩
def fs_spelled : FS :=
  fRet (fOpQ gTuple (fSeqE (fL (fLc (fRange1 (fCons (fVar 1) (fNil))) (fgSet 2) (fYes) (fOp (gI0 fun i j => .int (Builtin.bitAnd i j)) (fOp (gI cNn fun i j => .int (i / 2 ^ j.toNat)) (fVar 0) (fVar 2)) (fC (.int 1))) [2]))))
def F_spelled : FF := mkF 2 N_spelled.length fs_spelled
theorem ok_spelled {f : Addr} {fd : FuncData} {k : Nat} (F : Fun K "spelled" "spelled" s_spelled f fd)
    (z_range : mg "range" = none)
    (z_tuple : mg "tuple" = none) : FnOk P w K mg base CX0 (k + 1) f fd ["number", "length"] (spOf K Ps (ofF E0 F_spelled)) :=
  okF (N := N_spelled) (n := 2) (fs := fs_spelled) F sc_spelled rfl fun cdv A outer s H E hr => ⟨_, (have nd := sc_spelled.nd
    psd_one (psd_ret (pd_tuple (by rfl) z_tuple Dl.b_tuple (pq_dat (pd_new (pn_lc (own := [("place", 2)]) rfl nd (pid_range1 (by rfl) z_range (pda_cons (pw_dat (pd_var (pv 1))) (pda_nil))) (blkOk_by (N := N_spelled) (sc := defScope s_spelled) (by decide +kernel)) (fun _ _ _ _ _ => pgd_name (pg_name (i := 2) nd rfl (by first | exact Or.inl rfl | exact Or.inr rfl))) (fun _ _ _ _ _ => ptsd_nil) (fun _ _ _ _ _ => pd_op op_and (op2_I0 fun _ _ _ _ => .int _) (pd_op op_shr (op2_I fun _ _ _ _ => .int _) (pd_var (pv 0)) (pd_var (pv 2))) (pd_c pe_int (fun _ _ => .int _))))))))),
    (les_ret (le_opQ leq_tuple (le_seqE (le_L (le_lc (le_range1 (le_cons (le_var) (le_nil))) (le_gSet) (le_yes) (le_op (leop_I0) (le_op (leop_I cNn_ok) (le_var) (le_var)) (le_c)))))))⟩
abbrev s_number_of : Stmt := topS 24
abbrev N_number_of : List PySem.Str := ["word", "place", "bit"]
theorem sc_number_of : FnScope N_number_of ["word"] (defScope s_number_of) := ⟨rfl, rfl, rfl, by decide +kernel, rfl, by decide +kernel, by decide +kernel⟩
def fs_number_of : FS :=
  fRet (fOpQ gSum (fSeqE (fL (fLc (fEnum (fCons (fVar 0) (fNil))) (fgTup 2 (fgsCons (fgSet 1) (fgsCons (fgSet 2) (fgsNil)))) (fYes) (fOp (gI cShl fun i j => .int (i * 2 ^ j.toNat)) (fVar 2) (fVar 1)) [1, 2]))))
def F_number_of : FF := mkF 1 N_number_of.length fs_number_of
theorem ok_number_of {f : Addr} {fd : FuncData} {k : Nat} (F : Fun K "number_of" "number_of" s_number_of f fd)
    (z_enumerate : mg "enumerate" = none)
    (z_sum : mg "sum" = none) : FnOk P w K mg base CX0 (k + 1) f fd ["word"] (spOf K Ps (ofF E0 F_number_of)) :=
  okF (N := N_number_of) (n := 1) (fs := fs_number_of) F sc_number_of rfl fun cdv A outer s H E hr => ⟨_, (have nd := sc_number_of.nd
    psd_one (psd_ret (pd_callQ (cr_sumS rfl) opq_sumS (by rfl) z_sum Dl.b_sum (pq_dat (pd_new (pn_lc (own := [("place", 1), ("bit", 2)]) rfl nd (pid_enum (by rfl) z_enumerate (pda_cons (pw_dat (pd_var (pv 0))) (pda_nil))) (blkOk_by (N := N_number_of) (sc := defScope s_number_of) (by decide +kernel)) (fun _ _ _ _ _ => pgd_tup rfl (pgsd_cons (pgd_name (pg_name (i := 1) nd rfl (by first | exact Or.inl rfl | exact Or.inr rfl))) (pgsd_cons (pgd_name (pg_name (i := 2) nd rfl (by first | exact Or.inl rfl | exact Or.inr rfl))) (pgsd_nil)))) (fun _ _ _ _ _ => ptsd_nil) (fun _ _ _ _ _ => pd_op op_shlW (op2_I fun _ _ _ _ => .int _) (pd_var (pv 2)) (pd_var (pv 1))))))))),
    (les_ret (le_opQ leq_sum (le_seqE (le_L (le_lc (le_enum (le_cons (le_var) (le_nil))) (le_gTup (le_gsCons (le_gSet) (le_gsCons (le_gSet) (le_gsNil)))) (le_yes) (le_op (leop_I cShl_ok) (le_var) (le_var)))))))⟩
abbrev s_reduced : Stmt := topS 26
abbrev N_reduced : List PySem.Str := ["top", "bottom", "shared"]
theorem sc_reduced : FnScope N_reduced ["top", "bottom"] (defScope s_reduced) := ⟨rfl, rfl, rfl, by decide +kernel, rfl, by decide +kernel, by decide +kernel⟩
def fs_reduced : FS :=
  fSeq (fSet 2 (fOpN gGcd (fCons (fVar 0) (fCons (fVar 1) (fNil)))))
    (fSeq (fIf (fTest (fOp (gI0 fun i j => .bool (decide (i < j))) (fVar 1) (fC (.int 0)))) (fSet 2 (fNeg (fVar 2))) (fNext))
    (fRet (fTup (fCons (fOp (gI cDiv fun i j => .int (i / j)) (fVar 0) (fVar 2)) (fCons (fOp (gI cDiv fun i j => .int (i / j)) (fVar 1) (fVar 2)) (fNil))))))
def F_reduced : FF := mkF 2 N_reduced.length fs_reduced
theorem ok_reduced {f : Addr} {fd : FuncData} {k : Nat} (F : Fun K "reduced" "reduced" s_reduced f fd)
    (i_gcd : mg "gcd" = some (.builtin "math.gcd")) : FnOk P w K mg base CX0 (k + 1) f fd ["top", "bottom"] (spOf K Ps (ofF E0 F_reduced)) :=
  okF (N := N_reduced) (n := 2) (fs := fs_reduced) F sc_reduced rfl fun cdv A outer s H E hr => ⟨_, (have nd := sc_reduced.nd
    psd_cons (psd_set (i := 2) nd rfl (by first | exact Or.inl rfl | exact Or.inr rfl) (pd_callF cr_gcd opn_gcd (by rfl) i_gcd (pda_cons (pw_dat (pd_var (pv 0))) (pda_cons (pw_dat (pd_var (pv 1))) (pda_nil)))))
    (psd_cons (psd_if (pt_d_cmp op_lt (op2_I0 fun _ _ _ _ => .bl _) (pd_var (pv 1)) (pd_c pe_int (fun _ _ => .int _)) (nomark _)) (psd_one (psd_set (i := 2) nd rfl (by first | exact Or.inl rfl | exact Or.inr rfl) (pd_neg (pd_var (pv 2))))) (psd_nil))
    (psd_one (psd_ret (pd_tup (pda_cons (pw_dat (pd_op op_fdivW (op2_I fun _ _ _ _ => .int _) (pd_var (pv 0)) (pd_var (pv 2)))) (pda_cons (pw_dat (pd_op op_fdivW (op2_I fun _ _ _ _ => .int _) (pd_var (pv 1)) (pd_var (pv 2)))) (pda_nil)))))))),
    (les_seq (les_set (le_opN len_gcd (le_cons (le_var) (le_cons (le_var) (le_nil)))))
    (les_seq (les_if (le_test (le_op (leop_I0) (le_var) (le_c))) (les_set (le_neg (le_var))) (les_next))
    (les_ret (le_tup (le_cons (le_op (leop_I cDiv_ok) (le_var) (le_var)) (le_cons (le_op (leop_I cDiv_ok) (le_var) (le_var)) (le_nil)))))))⟩
abbrev s_minus : Stmt := topS 27
abbrev N_minus : List PySem.Str := ["one", "other"]
theorem sc_minus : FnScope N_minus ["one", "other"] (defScope s_minus) := ⟨rfl, rfl, rfl, by decide +kernel, rfl, by decide +kernel, by decide +kernel⟩
def fs_minus : FS :=
  fRet (fCall F_reduced (fCons (fOp (gI0 fun i j => .int (i - j)) (fOp (gI cMul fun i j => .int (i * j)) (fIx (fVarQ 0) (fC (.int 0))) (fIx (fVarQ 1) (fC (.int 1)))) (fOp (gI cMul fun i j => .int (i * j)) (fIx (fVarQ 1) (fC (.int 0))) (fIx (fVarQ 0) (fC (.int 1))))) (fCons (fOp (gI cMul fun i j => .int (i * j)) (fIx (fVarQ 0) (fC (.int 1))) (fIx (fVarQ 1) (fC (.int 1)))) (fNil))))
def F_minus : FF := mkF 2 N_minus.length fs_minus
theorem ok_minus {f : Addr} {fd : FuncData} {k : Nat} (F : Fun K "minus" "minus" s_minus f fd)
    {f_reduced : Addr} {d_reduced : FuncData} {l_reduced : Nat} (h_reduced : l_reduced ≤ k) (G_reduced : FnOk P w K mg base CX0 l_reduced f_reduced d_reduced ["top", "bottom"] (spOf K Ps (ofF E0 F_reduced))) (g_reduced : mg "reduced" = some (.ref f_reduced)) (k_reduced : PySem.W.keepIn K (.ref f_reduced) = true) (b_reduced : Binds K d_reduced ["top", "bottom"] []) : FnOk P w K mg base CX0 (k + 1) f fd ["one", "other"] (spOf K Ps (ofF E0 F_minus)) :=
  okF (N := N_minus) (n := 2) (fs := fs_minus) F sc_minus rfl fun cdv A outer s H E hr => ⟨_, (have nd := sc_minus.nd
    psd_one (psd_ret (pd_call G_reduced (hr.mono (by omega)) (by rfl) g_reduced k_reduced b_reduced (pda_cons (pw_dat (pd_op op_sub (op2_I0 fun _ _ _ _ => .int _) (pd_op op_mulE (op2_I fun _ _ _ _ => .int _) (pd_ix (pq_var (pv 0)) (pd_c pe_int (fun _ _ => .int _)) (fun _ _ => rfl)) (pd_ix (pq_var (pv 1)) (pd_c pe_int (fun _ _ => .int _)) (fun _ _ => rfl))) (pd_op op_mulE (op2_I fun _ _ _ _ => .int _) (pd_ix (pq_var (pv 1)) (pd_c pe_int (fun _ _ => .int _)) (fun _ _ => rfl)) (pd_ix (pq_var (pv 0)) (pd_c pe_int (fun _ _ => .int _)) (fun _ _ => rfl))))) (pda_cons (pw_dat (pd_op op_mulE (op2_I fun _ _ _ _ => .int _) (pd_ix (pq_var (pv 0)) (pd_c pe_int (fun _ _ => .int _)) (fun _ _ => rfl)) (pd_ix (pq_var (pv 1)) (pd_c pe_int (fun _ _ => .int _)) (fun _ _ => rfl)))) (pda_nil)))))),
    (les_ret (le_call (le_cons (le_op (leop_I0) (le_op (leop_I cMul_ok) (le_ix (le_varQ) (le_c)) (le_ix (le_varQ) (le_c))) (le_op (leop_I cMul_ok) (le_ix (le_varQ) (le_c)) (le_ix (le_varQ) (le_c)))) (le_cons (le_op (leop_I cMul_ok) (le_ix (le_varQ) (le_c)) (le_ix (le_varQ) (le_c))) (le_nil)))))⟩
abbrev s_dot : Stmt := topS 28
abbrev N_dot : List PySem.Str := ["one", "other", "left", "right"]
theorem sc_dot : FnScope N_dot ["one", "other"] (defScope s_dot) := ⟨rfl, rfl, rfl, by decide +kernel, rfl, by decide +kernel, by decide +kernel⟩
def fs_dot : FS :=
  fRet (fOpQ gSum (fSeqE (fL (fLc (fZip (fCons (fVar 0) (fCons (fVar 1) (fNil)))) (fgTup 2 (fgsCons (fgSet 2) (fgsCons (fgSet 3) (fgsNil)))) (fYes) (fOp (gI cMul fun i j => .int (i * j)) (fVar 2) (fVar 3)) [2, 3]))))
def F_dot : FF := mkF 2 N_dot.length fs_dot
theorem ok_dot {f : Addr} {fd : FuncData} {k : Nat} (F : Fun K "dot" "dot" s_dot f fd)
    (z_zip : mg "zip" = none)
    (z_sum : mg "sum" = none) : FnOk P w K mg base CX0 (k + 1) f fd ["one", "other"] (spOf K Ps (ofF E0 F_dot)) :=
  okF (N := N_dot) (n := 2) (fs := fs_dot) F sc_dot rfl fun cdv A outer s H E hr => ⟨_, (have nd := sc_dot.nd
    psd_one (psd_ret (pd_callQ (cr_sumS rfl) opq_sumS (by rfl) z_sum Dl.b_sum (pq_dat (pd_new (pn_lc (own := [("left", 2), ("right", 3)]) rfl nd (pid_zip (by rfl) z_zip (pda_cons (pw_dat (pd_var (pv 0))) (pda_cons (pw_dat (pd_var (pv 1))) (pda_nil)))) (blkOk_by (N := N_dot) (sc := defScope s_dot) (by decide +kernel)) (fun _ _ _ _ _ => pgd_tup rfl (pgsd_cons (pgd_name (pg_name (i := 2) nd rfl (by first | exact Or.inl rfl | exact Or.inr rfl))) (pgsd_cons (pgd_name (pg_name (i := 3) nd rfl (by first | exact Or.inl rfl | exact Or.inr rfl))) (pgsd_nil)))) (fun _ _ _ _ _ => ptsd_nil) (fun _ _ _ _ _ => pd_op op_mulE (op2_I fun _ _ _ _ => .int _) (pd_var (pv 2)) (pd_var (pv 3))))))))),
    (les_ret (le_opQ leq_sum (le_seqE (le_L (le_lc (le_zip (le_cons (le_var) (le_cons (le_var) (le_nil)))) (le_gTup (le_gsCons (le_gSet) (le_gsCons (le_gSet) (le_gsNil)))) (le_yes) (le_op (leop_I cMul_ok) (le_var) (le_var)))))))⟩
abbrev s_lowest_row : Stmt := topS 29
abbrev N_lowest_row : List PySem.Str := ["bottom", "numbers", "shared", "number"]
theorem sc_lowest_row : FnScope N_lowest_row ["bottom", "numbers"] (defScope s_lowest_row) := ⟨rfl, rfl, rfl, by decide +kernel, rfl, by decide +kernel, by decide +kernel⟩
def fs_lowest_row : FS :=
  fSeq (fSet 2 (fVar 0))
    (fSeq (fFor (fItS (fVar 1)) (fgSet 3) (fSet 2 (fOpN gGcd (fCons (fVar 2) (fCons (fVar 3) (fNil))))))
    (fRet (fTup (fCons (fOp (gI cDiv fun i j => .int (i / j)) (fVar 0) (fVar 2)) (fCons (fOpQ gTuple (fSeqE (fL (fLc (fItS (fVar 1)) (fgSet 3) (fYes) (fOp (gI cDiv fun i j => .int (i / j)) (fVar 3) (fVar 2)) [3])))) (fNil))))))
def F_lowest_row : FF := mkF 2 N_lowest_row.length fs_lowest_row
theorem ok_lowest_row {f : Addr} {fd : FuncData} {k : Nat} (F : Fun K "lowest_row" "lowest_row" s_lowest_row f fd)
    (i_gcd : mg "gcd" = some (.builtin "math.gcd"))
    (z_tuple : mg "tuple" = none) : FnOk P w K mg base CX0 (k + 1) f fd ["bottom", "numbers"] (spOf K Ps (ofF E0 F_lowest_row)) :=
  okF (N := N_lowest_row) (n := 2) (fs := fs_lowest_row) F sc_lowest_row rfl fun cdv A outer s H E hr => ⟨_, (have nd := sc_lowest_row.nd
    psd_cons (psd_set (i := 2) nd rfl (by first | exact Or.inl rfl | exact Or.inr rfl) (pd_var (pv 0)))
    (psd_cons (psd_for PassesOwn.never rfl (pid_seq (pd_var (pv 1))) (pgd_name (pg_name (i := 3) nd rfl (by first | exact Or.inl rfl | exact Or.inr rfl))) (psd_one (psd_set (i := 2) nd rfl (by first | exact Or.inl rfl | exact Or.inr rfl) (pd_callF cr_gcd opn_gcd (by rfl) i_gcd (pda_cons (pw_dat (pd_var (pv 2))) (pda_cons (pw_dat (pd_var (pv 3))) (pda_nil)))))))
    (psd_one (psd_ret (pd_tup (pda_cons (pw_dat (pd_op op_fdivW (op2_I fun _ _ _ _ => .int _) (pd_var (pv 0)) (pd_var (pv 2)))) (pda_cons (pw_dat (pd_tuple (by rfl) z_tuple Dl.b_tuple (pq_dat (pd_new (pn_lc (own := [("number", 3)]) rfl nd (pid_seq (pd_var (pv 1))) (blkOk_by (N := N_lowest_row) (sc := defScope s_lowest_row) (by decide +kernel)) (fun _ _ _ _ _ => pgd_name (pg_name (i := 3) nd rfl (by first | exact Or.inl rfl | exact Or.inr rfl))) (fun _ _ _ _ _ => ptsd_nil) (fun _ _ _ _ _ => pd_op op_fdivW (op2_I fun _ _ _ _ => .int _) (pd_var (pv 3)) (pd_var (pv 2)))))))) (pda_nil)))))))),
    (les_seq (les_set (le_var))
    (les_seq (les_for (le_itS (le_var)) (le_gSet) (les_set (le_opN len_gcd (le_cons (le_var) (le_cons (le_var) (le_nil))))))
    (les_ret (le_tup (le_cons (le_op (leop_I cDiv_ok) (le_var) (le_var)) (le_cons (le_opQ leq_tuple (le_seqE (le_L (le_lc (le_itS (le_var)) (le_gSet) (le_yes) (le_op (leop_I cDiv_ok) (le_var) (le_var)))))) (le_nil)))))))⟩
abbrev s_chance_of : Stmt := topS 31
abbrev N_chance_of : List PySem.Str := ["draw", "test"]
theorem sc_chance_of : FnScope N_chance_of ["draw", "test"] (defScope s_chance_of) := ⟨rfl, rfl, rfl, by decide +kernel, rfl, by decide +kernel, by decide +kernel⟩
def fs_chance_of : FS :=
  fRet (fCall F_reduced (fCons (fCall F_dot (fCons (fIx (fVarQ 0) (fC (.int 1))) (fCons (fVar 1) (fNil)))) (fCons (fIx (fVarQ 0) (fC (.int 0))) (fNil))))
def F_chance_of : FF := mkF 2 N_chance_of.length fs_chance_of
theorem ok_chance_of {f : Addr} {fd : FuncData} {k : Nat} (F : Fun K "chance_of" "chance_of" s_chance_of f fd)
    {f_dot : Addr} {d_dot : FuncData} {l_dot : Nat} (h_dot : l_dot ≤ k) (G_dot : FnOk P w K mg base CX0 l_dot f_dot d_dot ["one", "other"] (spOf K Ps (ofF E0 F_dot))) (g_dot : mg "dot" = some (.ref f_dot)) (k_dot : PySem.W.keepIn K (.ref f_dot) = true) (b_dot : Binds K d_dot ["one", "other"] [])
    {f_reduced : Addr} {d_reduced : FuncData} {l_reduced : Nat} (h_reduced : l_reduced ≤ k) (G_reduced : FnOk P w K mg base CX0 l_reduced f_reduced d_reduced ["top", "bottom"] (spOf K Ps (ofF E0 F_reduced))) (g_reduced : mg "reduced" = some (.ref f_reduced)) (k_reduced : PySem.W.keepIn K (.ref f_reduced) = true) (b_reduced : Binds K d_reduced ["top", "bottom"] []) : FnOk P w K mg base CX0 (k + 1) f fd ["draw", "test"] (spOf K Ps (ofF E0 F_chance_of)) :=
  okF (N := N_chance_of) (n := 2) (fs := fs_chance_of) F sc_chance_of rfl fun cdv A outer s H E hr => ⟨_, (have nd := sc_chance_of.nd
    psd_one (psd_ret (pd_call G_reduced (hr.mono (by omega)) (by rfl) g_reduced k_reduced b_reduced (pda_cons (pw_dat (pd_call G_dot (hr.mono (by omega)) (by rfl) g_dot k_dot b_dot (pda_cons (pw_dat (pd_ix (pq_var (pv 0)) (pd_c pe_int (fun _ _ => .int _)) (fun _ _ => rfl))) (pda_cons (pw_dat (pd_var (pv 1))) (pda_nil))))) (pda_cons (pw_dat (pd_ix (pq_var (pv 0)) (pd_c pe_int (fun _ _ => .int _)) (fun _ _ => rfl))) (pda_nil)))))),
    (les_ret (le_call (le_cons (le_call (le_cons (le_ix (le_varQ) (le_c)) (le_cons (le_var) (le_nil)))) (le_cons (le_ix (le_varQ) (le_c)) (le_nil)))))⟩
abbrev s_excess_of : Stmt := topS 32
abbrev N_excess_of : List PySem.Str := ["draw", "test"]
theorem sc_excess_of : FnScope N_excess_of ["draw", "test"] (defScope s_excess_of) := ⟨rfl, rfl, rfl, by decide +kernel, rfl, by decide +kernel, by decide +kernel⟩
def fs_excess_of : FS :=
  fRet (fCall F_minus (fCons (fCall F_chance_of (fCons (fVar 0) (fCons (fVar 1) (fNil)))) (fCons (fTup (fCons (fOpQ gSum (fVarQ 1)) (fCons (fOpQ gLen (fVarQ 1)) (fNil)))) (fNil))))
def F_excess_of : FF := mkF 2 N_excess_of.length fs_excess_of
theorem ok_excess_of {f : Addr} {fd : FuncData} {k : Nat} (F : Fun K "excess_of" "excess_of" s_excess_of f fd)
    (z_len : mg "len" = none)
    (z_sum : mg "sum" = none)
    {f_chance_of : Addr} {d_chance_of : FuncData} {l_chance_of : Nat} (h_chance_of : l_chance_of ≤ k) (G_chance_of : FnOk P w K mg base CX0 l_chance_of f_chance_of d_chance_of ["draw", "test"] (spOf K Ps (ofF E0 F_chance_of))) (g_chance_of : mg "chance_of" = some (.ref f_chance_of)) (k_chance_of : PySem.W.keepIn K (.ref f_chance_of) = true) (b_chance_of : Binds K d_chance_of ["draw", "test"] [])
    {f_minus : Addr} {d_minus : FuncData} {l_minus : Nat} (h_minus : l_minus ≤ k) (G_minus : FnOk P w K mg base CX0 l_minus f_minus d_minus ["one", "other"] (spOf K Ps (ofF E0 F_minus))) (g_minus : mg "minus" = some (.ref f_minus)) (k_minus : PySem.W.keepIn K (.ref f_minus) = true) (b_minus : Binds K d_minus ["one", "other"] []) : FnOk P w K mg base CX0 (k + 1) f fd ["draw", "test"] (spOf K Ps (ofF E0 F_excess_of)) :=
  okF (N := N_excess_of) (n := 2) (fs := fs_excess_of) F sc_excess_of rfl fun cdv A outer s H E hr => ⟨_, (have nd := sc_excess_of.nd
    psd_one (psd_ret (pd_call G_minus (hr.mono (by omega)) (by rfl) g_minus k_minus b_minus (pda_cons (pw_dat (pd_call G_chance_of (hr.mono (by omega)) (by rfl) g_chance_of k_chance_of b_chance_of (pda_cons (pw_dat (pd_var (pv 0))) (pda_cons (pw_dat (pd_var (pv 1))) (pda_nil))))) (pda_cons (pw_dat (pd_tup (pda_cons (pw_dat (pd_callQ (cr_sumS rfl) opq_sumS (by rfl) z_sum Dl.b_sum (pq_var (pv 1)))) (pda_cons (pw_dat (pd_len (by rfl) z_len (pq_var (pv 1)))) (pda_nil))))) (pda_nil)))))),
    (les_ret (le_call (le_cons (le_call (le_cons (le_var) (le_cons (le_var) (le_nil)))) (le_cons (le_tup (le_cons (le_opQ leq_sum (le_varQ)) (le_cons (le_opQ leq_len (le_varQ)) (le_nil)))) (le_nil)))))⟩
abbrev s__need_bits : Stmt := topS 35
abbrev N__need_bits : List PySem.Str := ["m"]
theorem sc__need_bits : FnScope N__need_bits ["m"] (defScope s__need_bits) := ⟨rfl, rfl, rfl, by decide +kernel, rfl, by decide +kernel, by decide +kernel⟩
def fs__need_bits : FS :=
  fDrop (fCall F_need_number (fCons (fVar 0) (fCons (fC (.int 1)) (fCons (fC (.int 6)) (fNil)))))
def F__need_bits : FF := mkF 1 N__need_bits.length fs__need_bits
theorem ok__need_bits {f : Addr} {fd : FuncData} {k : Nat} (F : Fun K "_need_bits" "_need_bits" s__need_bits f fd)
    {tk__MOST_BITS : Tok} (c__MOST_BITS : mg "_MOST_BITS" = some (.int 6 tk__MOST_BITS))
    {f_need_number : Addr} {d_need_number : FuncData} {l_need_number : Nat} (h_need_number : l_need_number ≤ k) (G_need_number : FnOk P w K mg base CX0 l_need_number f_need_number d_need_number ["value", "low", "high"] (spOf K Ps (ofF E0 F_need_number))) (g_need_number : mg "need_number" = some (.ref f_need_number)) (k_need_number : PySem.W.keepIn K (.ref f_need_number) = true) (b_need_number : Binds K d_need_number ["value", "low", "high"] []) : FnOk P w K mg base CX0 (k + 1) f fd ["m"] (spOf K Ps (ofF E0 F__need_bits)) :=
  okF (N := N__need_bits) (n := 1) (fs := fs__need_bits) F sc__need_bits rfl fun cdv A outer s H E hr => ⟨_, (have nd := sc__need_bits.nd
    psd_one (psd_expr (pd_call G_need_number (hr.mono (by omega)) (by rfl) g_need_number k_need_number b_need_number (pda_cons (pw_dat (pd_var (pv 0))) (pda_cons (pw_dat (pd_c pe_int (fun _ _ => .int _))) (pda_cons (pw_dat (pd_c (pe_glob (v := V.int 6) (by rfl) c__MOST_BITS ⟨_, rfl⟩) (fun _ _ => .int _))) (pda_nil))))))),
    (les_drop (le_call (le_cons (le_var) (le_cons (le_c) (le_cons (le_c) (le_nil))))))⟩
abbrev s__need_bits_and_draw : Stmt := topS 36
abbrev N__need_bits_and_draw : List PySem.Str := ["m", "draw"]
theorem sc__need_bits_and_draw : FnScope N__need_bits_and_draw ["m", "draw"] (defScope s__need_bits_and_draw) := ⟨rfl, rfl, rfl, by decide +kernel, rfl, by decide +kernel, by decide +kernel⟩
def fs__need_bits_and_draw : FS :=
  fSeq (fDrop (fCall F__need_bits (fCons (fVar 0) (fNil))))
    (fDrop (fCall F_need_draw (fCons (fVar 1) (fCons (fOp (gI cShl fun i j => .int (i * 2 ^ j.toNat)) (fC (.int 1)) (fVar 0)) (fNil)))))
def F__need_bits_and_draw : FF := mkF 2 N__need_bits_and_draw.length fs__need_bits_and_draw
theorem ok__need_bits_and_draw {f : Addr} {fd : FuncData} {k : Nat} (F : Fun K "_need_bits_and_draw" "_need_bits_and_draw" s__need_bits_and_draw f fd)
    {f__need_bits : Addr} {d__need_bits : FuncData} {l__need_bits : Nat} (h__need_bits : l__need_bits ≤ k) (G__need_bits : FnOk P w K mg base CX0 l__need_bits f__need_bits d__need_bits ["m"] (spOf K Ps (ofF E0 F__need_bits))) (g__need_bits : mg "_need_bits" = some (.ref f__need_bits)) (k__need_bits : PySem.W.keepIn K (.ref f__need_bits) = true) (b__need_bits : Binds K d__need_bits ["m"] [])
    {f_need_draw : Addr} {d_need_draw : FuncData} {l_need_draw : Nat} (h_need_draw : l_need_draw ≤ k) (G_need_draw : FnOk P w K mg base CX0 l_need_draw f_need_draw d_need_draw ["value", "count"] (spOf K Ps (ofF E0 F_need_draw))) (g_need_draw : mg "need_draw" = some (.ref f_need_draw)) (k_need_draw : PySem.W.keepIn K (.ref f_need_draw) = true) (b_need_draw : Binds K d_need_draw ["value", "count"] []) : FnOk P w K mg base CX0 (k + 1) f fd ["m", "draw"] (spOf K Ps (ofF E0 F__need_bits_and_draw)) :=
  okF (N := N__need_bits_and_draw) (n := 2) (fs := fs__need_bits_and_draw) F sc__need_bits_and_draw rfl fun cdv A outer s H E hr => ⟨_, (have nd := sc__need_bits_and_draw.nd
    psd_cons (psd_expr (pd_call G__need_bits (hr.mono (by omega)) (by rfl) g__need_bits k__need_bits b__need_bits (pda_cons (pw_dat (pd_var (pv 0))) (pda_nil))))
    (psd_one (psd_expr (pd_call G_need_draw (hr.mono (by omega)) (by rfl) g_need_draw k_need_draw b_need_draw (pda_cons (pw_dat (pd_var (pv 1))) (pda_cons (pw_dat (pd_op op_shlW (op2_I fun _ _ _ _ => .int _) (pd_c pe_int (fun _ _ => .int _)) (pd_var (pv 0)))) (pda_nil))))))),
    (les_seq (les_drop (le_call (le_cons (le_var) (le_nil))))
    (les_drop (le_call (le_cons (le_var) (le_cons (le_op (leop_I cShl_ok) (le_c) (le_var)) (le_nil))))))⟩
abbrev s_words : Stmt := topS 37
abbrev N_words : List PySem.Str := ["m", "number"]
theorem sc_words : FnScope N_words ["m"] (defScope s_words) := ⟨rfl, rfl, rfl, by decide +kernel, rfl, by decide +kernel, by decide +kernel⟩
def fs_words : FS :=
  fSeq (fDrop (fCall F__need_bits (fCons (fVar 0) (fNil))))
    (fRet (fOpQ gTuple (fSeqE (fL (fLc (fRange1 (fCons (fOp (gI cShl fun i j => .int (i * 2 ^ j.toNat)) (fC (.int 1)) (fVar 0)) (fNil))) (fgSet 1) (fYes) (fCall F_spelled (fCons (fVar 1) (fCons (fVar 0) (fNil)))) [1])))))
def F_words : FF := mkF 1 N_words.length fs_words
theorem ok_words {f : Addr} {fd : FuncData} {k : Nat} (F : Fun K "words" "words" s_words f fd)
    (z_range : mg "range" = none)
    (z_tuple : mg "tuple" = none)
    {f__need_bits : Addr} {d__need_bits : FuncData} {l__need_bits : Nat} (h__need_bits : l__need_bits ≤ k) (G__need_bits : FnOk P w K mg base CX0 l__need_bits f__need_bits d__need_bits ["m"] (spOf K Ps (ofF E0 F__need_bits))) (g__need_bits : mg "_need_bits" = some (.ref f__need_bits)) (k__need_bits : PySem.W.keepIn K (.ref f__need_bits) = true) (b__need_bits : Binds K d__need_bits ["m"] [])
    {f_spelled : Addr} {d_spelled : FuncData} {l_spelled : Nat} (h_spelled : l_spelled ≤ k) (G_spelled : FnOk P w K mg base CX0 l_spelled f_spelled d_spelled ["number", "length"] (spOf K Ps (ofF E0 F_spelled))) (g_spelled : mg "spelled" = some (.ref f_spelled)) (k_spelled : PySem.W.keepIn K (.ref f_spelled) = true) (b_spelled : Binds K d_spelled ["number", "length"] []) : FnOk P w K mg base CX0 (k + 1) f fd ["m"] (spOf K Ps (ofF E0 F_words)) :=
  okF (N := N_words) (n := 1) (fs := fs_words) F sc_words rfl fun cdv A outer s H E hr => ⟨_, (have nd := sc_words.nd
    psd_cons (psd_expr (pd_call G__need_bits (hr.mono (by omega)) (by rfl) g__need_bits k__need_bits b__need_bits (pda_cons (pw_dat (pd_var (pv 0))) (pda_nil))))
    (psd_one (psd_ret (pd_tuple (by rfl) z_tuple Dl.b_tuple (pq_dat (pd_new (pn_lc (own := [("number", 1)]) rfl nd (pid_range1 (by rfl) z_range (pda_cons (pw_dat (pd_op op_shlW (op2_I fun _ _ _ _ => .int _) (pd_c pe_int (fun _ _ => .int _)) (pd_var (pv 0)))) (pda_nil))) (blkOk_by (N := N_words) (sc := defScope s_words) (by decide +kernel)) (fun _ _ _ _ _ => pgd_name (pg_name (i := 1) nd rfl (by first | exact Or.inl rfl | exact Or.inr rfl))) (fun _ _ _ _ _ => ptsd_nil) (fun _ _ _ _ _ => pd_call G_spelled (hr.mono (by omega)) (by rfl) g_spelled k_spelled b_spelled (pda_cons (pw_dat (pd_var (pv 1))) (pda_cons (pw_dat (pd_var (pv 0))) (pda_nil))))))))))),
    (les_seq (les_drop (le_call (le_cons (le_var) (le_nil))))
    (les_ret (le_opQ leq_tuple (le_seqE (le_L (le_lc (le_range1 (le_cons (le_op (leop_I cShl_ok) (le_c) (le_var)) (le_nil))) (le_gSet) (le_yes) (le_call (le_cons (le_var) (le_cons (le_var) (le_nil))))))))))⟩
abbrev s_word_number : Stmt := topS 38
abbrev N_word_number : List PySem.Str := ["m", "word"]
theorem sc_word_number : FnScope N_word_number ["m", "word"] (defScope s_word_number) := ⟨rfl, rfl, rfl, by decide +kernel, rfl, by decide +kernel, by decide +kernel⟩
def fs_word_number : FS :=
  fSeq (fDrop (fCall F__need_bits (fCons (fVar 0) (fNil))))
    (fSeq (fDrop (fCall F_need_word (fCons (fVar 1) (fCons (fVar 0) (fNil)))))
    (fRet (fCall F_number_of (fCons (fVar 1) (fNil)))))
def F_word_number : FF := mkF 2 N_word_number.length fs_word_number
theorem ok_word_number {f : Addr} {fd : FuncData} {k : Nat} (F : Fun K "word_number" "word_number" s_word_number f fd)
    {f__need_bits : Addr} {d__need_bits : FuncData} {l__need_bits : Nat} (h__need_bits : l__need_bits ≤ k) (G__need_bits : FnOk P w K mg base CX0 l__need_bits f__need_bits d__need_bits ["m"] (spOf K Ps (ofF E0 F__need_bits))) (g__need_bits : mg "_need_bits" = some (.ref f__need_bits)) (k__need_bits : PySem.W.keepIn K (.ref f__need_bits) = true) (b__need_bits : Binds K d__need_bits ["m"] [])
    {f_need_word : Addr} {d_need_word : FuncData} {l_need_word : Nat} (h_need_word : l_need_word ≤ k) (G_need_word : FnOk P w K mg base CX0 l_need_word f_need_word d_need_word ["value", "length"] (spOf K Ps (ofF E0 F_need_word))) (g_need_word : mg "need_word" = some (.ref f_need_word)) (k_need_word : PySem.W.keepIn K (.ref f_need_word) = true) (b_need_word : Binds K d_need_word ["value", "length"] [])
    {f_number_of : Addr} {d_number_of : FuncData} {l_number_of : Nat} (h_number_of : l_number_of ≤ k) (G_number_of : FnOk P w K mg base CX0 l_number_of f_number_of d_number_of ["word"] (spOf K Ps (ofF E0 F_number_of))) (g_number_of : mg "number_of" = some (.ref f_number_of)) (k_number_of : PySem.W.keepIn K (.ref f_number_of) = true) (b_number_of : Binds K d_number_of ["word"] []) : FnOk P w K mg base CX0 (k + 1) f fd ["m", "word"] (spOf K Ps (ofF E0 F_word_number)) :=
  okF (N := N_word_number) (n := 2) (fs := fs_word_number) F sc_word_number rfl fun cdv A outer s H E hr => ⟨_, (have nd := sc_word_number.nd
    psd_cons (psd_expr (pd_call G__need_bits (hr.mono (by omega)) (by rfl) g__need_bits k__need_bits b__need_bits (pda_cons (pw_dat (pd_var (pv 0))) (pda_nil))))
    (psd_cons (psd_expr (pd_call G_need_word (hr.mono (by omega)) (by rfl) g_need_word k_need_word b_need_word (pda_cons (pw_dat (pd_var (pv 1))) (pda_cons (pw_dat (pd_var (pv 0))) (pda_nil)))))
    (psd_one (psd_ret (pd_call G_number_of (hr.mono (by omega)) (by rfl) g_number_of k_number_of b_number_of (pda_cons (pw_dat (pd_var (pv 1))) (pda_nil))))))),
    (les_seq (les_drop (le_call (le_cons (le_var) (le_nil))))
    (les_seq (les_drop (le_call (le_cons (le_var) (le_cons (le_var) (le_nil)))))
    (les_ret (le_call (le_cons (le_var) (le_nil))))))⟩
abbrev s_draw_of : Stmt := topS 39
abbrev N_draw_of : List PySem.Str := ["m", "counts", "count"]
theorem sc_draw_of : FnScope N_draw_of ["m", "counts"] (defScope s_draw_of) := ⟨rfl, rfl, rfl, by decide +kernel, rfl, by decide +kernel, by decide +kernel⟩
def fs_draw_of : FS :=
  fSeq (fDrop (fCall F__need_bits (fCons (fVar 0) (fNil))))
    (fSeq (fIf (fOr (fNot (fTest (fCall F_is_tuple_of (fCons (fVar 1) (fCons (fOp (gI cShl fun i j => .int (i * 2 ^ j.toNat)) (fC (.int 1)) (fVar 0)) (fNil)))))) (fNot (fTest (fAll (fItS (fVar 1)) (fgSet 2) (fYes) (fAndV (fCall F_is_short (fCons (fVar 2) (fNil))) (fOp (gI0 fun i j => .bool (decide (j ≤ i))) (fVar 2) (fC (.int 0)))) [2])))) (fRaise ⟨"InvalidDraw", none⟩) (fNext))
    (fSeq (fIf (fTest (fOp (gEq false) (fOpQ gSum (fVarQ 1)) (fC (.int 0)))) (fRaise ⟨"InvalidDraw", none⟩) (fNext))
    (fRet (fCall F_lowest_row (fCons (fOpQ gSum (fVarQ 1)) (fCons (fVar 1) (fNil)))))))
def F_draw_of : FF := mkF 2 N_draw_of.length fs_draw_of
theorem ok_draw_of {f cc PP : Addr} {fd : FuncData} {k : Nat} (F : FunC K "draw_of" "draw_of" s_draw_of cc f fd)
    (z_all : mg "all" = none)
    (z_sum : mg "sum" = none)
    (h2 : 2 ≤ k) (TB : GxR.TabB base mg cc PP) (hPP : PP ∈ Ps)
    {f__need_bits : Addr} {d__need_bits : FuncData} {l__need_bits : Nat} (h__need_bits : l__need_bits + 2 ≤ k) (G__need_bits : FnOk P w K mg base CX0 l__need_bits f__need_bits d__need_bits ["m"] (spOf K Ps (ofF E0 F__need_bits))) (g__need_bits : mg "_need_bits" = some (.ref f__need_bits)) (k__need_bits : PySem.W.keepIn K (.ref f__need_bits) = true) (b__need_bits : Binds K d__need_bits ["m"] [])
    {f_is_tuple_of : Addr} {d_is_tuple_of : FuncData} {l_is_tuple_of : Nat} (h_is_tuple_of : l_is_tuple_of + 2 ≤ k) (G_is_tuple_of : FnOk P w K mg base CX0 l_is_tuple_of f_is_tuple_of d_is_tuple_of ["value", "length"] (spOf K Ps (ofF E0 F_is_tuple_of))) (g_is_tuple_of : mg "is_tuple_of" = some (.ref f_is_tuple_of)) (k_is_tuple_of : PySem.W.keepIn K (.ref f_is_tuple_of) = true) (b_is_tuple_of : Binds K d_is_tuple_of ["value", "length"] [])
    {f_is_short : Addr} {d_is_short : FuncData} {l_is_short : Nat} (h_is_short : l_is_short + 2 ≤ k) (G_is_short : FnOk P w K mg base CX0 l_is_short f_is_short d_is_short ["value"] (spOf K Ps (ofF E0 F_is_short))) (g_is_short : mg "is_short" = some (.ref f_is_short)) (k_is_short : PySem.W.keepIn K (.ref f_is_short) = true) (b_is_short : Binds K d_is_short ["value"] [])
    {f_lowest_row : Addr} {d_lowest_row : FuncData} {l_lowest_row : Nat} (h_lowest_row : l_lowest_row + 2 ≤ k) (G_lowest_row : FnOk P w K mg base CX0 l_lowest_row f_lowest_row d_lowest_row ["bottom", "numbers"] (spOf K Ps (ofF E0 F_lowest_row))) (g_lowest_row : mg "lowest_row" = some (.ref f_lowest_row)) (k_lowest_row : PySem.W.keepIn K (.ref f_lowest_row) = true) (b_lowest_row : Binds K d_lowest_row ["bottom", "numbers"] []) : FnOk P w K mg base CX0 (k + 1) f fd ["m", "counts"] (spOf K Ps (ofF E0 F_draw_of)) :=
  okFC (N := N_draw_of) (n := 2) (fs := fs_draw_of) F sc_draw_of rfl fun A outer s H E hr => ⟨_, (have nd := sc_draw_of.nd
    psd_cons (psd_expr (pd_call G__need_bits (hr.mono (by omega)) (by rfl) g__need_bits k__need_bits b__need_bits (pda_cons (pw_dat (pd_var (pv 0))) (pda_nil))))
    (psd_cons (psd_if (PW.pt (pwd_or (ptd_not (ptd_bool (pd_call G_is_tuple_of (hr.mono (by omega)) (by rfl) g_is_tuple_of k_is_tuple_of b_is_tuple_of (pda_cons (pw_dat (pd_var (pv 1))) (pda_cons (pw_dat (pd_op op_shlW (op2_I fun _ _ _ _ => .int _) (pd_c pe_int (fun _ _ => .int _)) (pd_var (pv 0)))) (pda_nil)))))) (pwd_or1 (ptd_not (ptd_bool (pd_all (k := k - 2) (own := [("count", 2)]) (hr.mono (by omega)) (by rfl) z_all TB hPP rfl nd rfl (by decide +kernel) rfl (blkOk_by (N := N_draw_of) (sc := defScope s_draw_of) (by decide +kernel)) (pid_seq (pd_var (pv 1))) (fun _ _ _ _ _ _ _ hr => pgd_name (pg_name (i := 2) nd rfl (by first | exact Or.inl rfl | exact Or.inr rfl))) (fun _ _ _ _ _ _ _ hr => ptsd_nil) (fun _ _ _ _ _ _ _ hr => pd_and (pd_call G_is_short (hr.mono (by omega)) (by rfl) g_is_short k_is_short b_is_short (pda_cons (pw_dat (pd_var (pv 2))) (pda_nil))) (pe_one (pd_cmp op_ge (op2_I0 fun _ _ _ _ => .bl _) (pd_var (pv 2)) (pd_c pe_int (fun _ _ => .int _)) (nomark _)))))))))) (psd_one (psd_raise)) (psd_nil))
    (psd_cons (psd_if (pt_d_cmp (op_eqD hr.units) (op2_eq) (pd_callQ (cr_sumS rfl) opq_sumS (by rfl) z_sum Dl.b_sum (pq_var (pv 1))) (pd_c pe_int (fun _ _ => .int _)) (nomark _)) (psd_one (psd_raise)) (psd_nil))
    (psd_one (psd_ret (pd_call G_lowest_row (hr.mono (by omega)) (by rfl) g_lowest_row k_lowest_row b_lowest_row (pda_cons (pw_dat (pd_callQ (cr_sumS rfl) opq_sumS (by rfl) z_sum Dl.b_sum (pq_var (pv 1)))) (pda_cons (pw_dat (pd_var (pv 1))) (pda_nil))))))))),
    (les_seq (les_drop (le_call (le_cons (le_var) (le_nil))))
    (les_seq (les_if (le_orT (le_notT (le_test (le_call (le_cons (le_var) (le_cons (le_op (leop_I cShl_ok) (le_c) (le_var)) (le_nil)))))) (le_notT (le_test (le_all (le_itS (le_var)) (le_gSet) (le_yes) (le_andV (le_call (le_cons (le_var) (le_nil))) (le_op (leop_I0) (le_var) (le_c))))))) (les_raise) (les_next))
    (les_seq (les_if (le_test (le_op (leop_eq) (le_opQ leq_sum (le_varQ)) (le_c))) (les_raise) (les_next))
    (les_ret (le_call (le_cons (le_opQ leq_sum (le_varQ)) (le_cons (le_var) (le_nil))))))))⟩
abbrev s_even_draw : Stmt := topS 40
abbrev N_even_draw : List PySem.Str := ["m"]
theorem sc_even_draw : FnScope N_even_draw ["m"] (defScope s_even_draw) := ⟨rfl, rfl, rfl, by decide +kernel, rfl, by decide +kernel, by decide +kernel⟩
def fs_even_draw : FS :=
  fSeq (fDrop (fCall F__need_bits (fCons (fVar 0) (fNil))))
    (fRet (fTup (fCons (fOp (gI cShl fun i j => .int (i * 2 ^ j.toNat)) (fC (.int 1)) (fVar 0)) (fCons (fOp (gRepA) (fTup (fCons (fC (.int 1)) (fNil))) (fOp (gI cShl fun i j => .int (i * 2 ^ j.toNat)) (fC (.int 1)) (fVar 0))) (fNil)))))
def F_even_draw : FF := mkF 1 N_even_draw.length fs_even_draw
theorem ok_even_draw {f : Addr} {fd : FuncData} {k : Nat} (F : Fun K "even_draw" "even_draw" s_even_draw f fd)
    {f__need_bits : Addr} {d__need_bits : FuncData} {l__need_bits : Nat} (h__need_bits : l__need_bits ≤ k) (G__need_bits : FnOk P w K mg base CX0 l__need_bits f__need_bits d__need_bits ["m"] (spOf K Ps (ofF E0 F__need_bits))) (g__need_bits : mg "_need_bits" = some (.ref f__need_bits)) (k__need_bits : PySem.W.keepIn K (.ref f__need_bits) = true) (b__need_bits : Binds K d__need_bits ["m"] []) : FnOk P w K mg base CX0 (k + 1) f fd ["m"] (spOf K Ps (ofF E0 F_even_draw)) :=
  okF (N := N_even_draw) (n := 1) (fs := fs_even_draw) F sc_even_draw rfl fun cdv A outer s H E hr => ⟨_, (have nd := sc_even_draw.nd
    psd_cons (psd_expr (pd_call G__need_bits (hr.mono (by omega)) (by rfl) g__need_bits k__need_bits b__need_bits (pda_cons (pw_dat (pd_var (pv 0))) (pda_nil))))
    (psd_one (psd_ret (pd_tup (pda_cons (pw_dat (pd_op op_shlW (op2_I fun _ _ _ _ => .int _) (pd_c pe_int (fun _ _ => .int _)) (pd_var (pv 0)))) (pda_cons (pw_dat (pd_op op_repA (op2_repA) (pd_tup (pda_cons (pw_dat (pd_c pe_int (fun _ _ => .int _))) (pda_nil))) (pd_op op_shlW (op2_I fun _ _ _ _ => .int _) (pd_c pe_int (fun _ _ => .int _)) (pd_var (pv 0))))) (pda_nil))))))),
    (les_seq (les_drop (le_call (le_cons (le_var) (le_nil))))
    (les_ret (le_tup (le_cons (le_op (leop_I cShl_ok) (le_c) (le_var)) (le_cons (le_op (leop_repA) (le_tup (le_cons (le_c) (le_nil))) (le_op (leop_I cShl_ok) (le_c) (le_var))) (le_nil))))))⟩
abbrev s_excess : Stmt := topS 41
abbrev N_excess : List PySem.Str := ["m", "draw", "test"]
theorem sc_excess : FnScope N_excess ["m", "draw", "test"] (defScope s_excess) := ⟨rfl, rfl, rfl, by decide +kernel, rfl, by decide +kernel, by decide +kernel⟩
def fs_excess : FS :=
  fSeq (fDrop (fCall F__need_bits_and_draw (fCons (fVar 0) (fCons (fVar 1) (fNil)))))
    (fSeq (fDrop (fCall F_need_table (fCons (fVar 2) (fCons (fVar 0) (fNil)))))
    (fRet (fCall F_excess_of (fCons (fVar 1) (fCons (fVar 2) (fNil))))))
def F_excess : FF := mkF 3 N_excess.length fs_excess
theorem ok_excess {f : Addr} {fd : FuncData} {k : Nat} (F : Fun K "excess" "excess" s_excess f fd)
    {f__need_bits_and_draw : Addr} {d__need_bits_and_draw : FuncData} {l__need_bits_and_draw : Nat} (h__need_bits_and_draw : l__need_bits_and_draw ≤ k) (G__need_bits_and_draw : FnOk P w K mg base CX0 l__need_bits_and_draw f__need_bits_and_draw d__need_bits_and_draw ["m", "draw"] (spOf K Ps (ofF E0 F__need_bits_and_draw))) (g__need_bits_and_draw : mg "_need_bits_and_draw" = some (.ref f__need_bits_and_draw)) (k__need_bits_and_draw : PySem.W.keepIn K (.ref f__need_bits_and_draw) = true) (b__need_bits_and_draw : Binds K d__need_bits_and_draw ["m", "draw"] [])
    {f_need_table : Addr} {d_need_table : FuncData} {l_need_table : Nat} (h_need_table : l_need_table ≤ k) (G_need_table : FnOk P w K mg base CX0 l_need_table f_need_table d_need_table ["value", "bits"] (spOf K Ps (ofF E0 F_need_table))) (g_need_table : mg "need_table" = some (.ref f_need_table)) (k_need_table : PySem.W.keepIn K (.ref f_need_table) = true) (b_need_table : Binds K d_need_table ["value", "bits"] [])
    {f_excess_of : Addr} {d_excess_of : FuncData} {l_excess_of : Nat} (h_excess_of : l_excess_of ≤ k) (G_excess_of : FnOk P w K mg base CX0 l_excess_of f_excess_of d_excess_of ["draw", "test"] (spOf K Ps (ofF E0 F_excess_of))) (g_excess_of : mg "excess_of" = some (.ref f_excess_of)) (k_excess_of : PySem.W.keepIn K (.ref f_excess_of) = true) (b_excess_of : Binds K d_excess_of ["draw", "test"] []) : FnOk P w K mg base CX0 (k + 1) f fd ["m", "draw", "test"] (spOf K Ps (ofF E0 F_excess)) :=
  okF (N := N_excess) (n := 3) (fs := fs_excess) F sc_excess rfl fun cdv A outer s H E hr => ⟨_, (have nd := sc_excess.nd
    psd_cons (psd_expr (pd_call G__need_bits_and_draw (hr.mono (by omega)) (by rfl) g__need_bits_and_draw k__need_bits_and_draw b__need_bits_and_draw (pda_cons (pw_dat (pd_var (pv 0))) (pda_cons (pw_dat (pd_var (pv 1))) (pda_nil)))))
    (psd_cons (psd_expr (pd_call G_need_table (hr.mono (by omega)) (by rfl) g_need_table k_need_table b_need_table (pda_cons (pw_dat (pd_var (pv 2))) (pda_cons (pw_dat (pd_var (pv 0))) (pda_nil)))))
    (psd_one (psd_ret (pd_call G_excess_of (hr.mono (by omega)) (by rfl) g_excess_of k_excess_of b_excess_of (pda_cons (pw_dat (pd_var (pv 1))) (pda_cons (pw_dat (pd_var (pv 2))) (pda_nil)))))))),
    (les_seq (les_drop (le_call (le_cons (le_var) (le_cons (le_var) (le_nil)))))
    (les_seq (les_drop (le_call (le_cons (le_var) (le_cons (le_var) (le_nil)))))
    (les_ret (le_call (le_cons (le_var) (le_cons (le_var) (le_nil)))))))⟩
abbrev s__heads : Stmt := topS 42
abbrev N__heads : List PySem.Str := ["numbers", "length", "sums", "word", "number"]
theorem sc__heads : FnScope N__heads ["numbers", "length"] (defScope s__heads) := ⟨rfl, rfl, rfl, by decide +kernel, rfl, by decide +kernel, by decide +kernel⟩
def fs__heads : FS :=
  fSeq (fSetO 2 (fRep (fLst (fCons (fC (.int 0)) (fNil))) (fOp (gI cShl fun i j => .int (i * 2 ^ j.toNat)) (fC (.int 1)) (fVar 1))))
    (fSeq (fFor (fEnum (fCons (fVar 0) (fNil))) (fgTup 2 (fgsCons (fgSet 3) (fgsCons (fgSet 4) (fgsNil)))) (fAugIx 2 (fOp (gI0 fun i j => .int (Builtin.bitAnd i j)) (fVar 3) (fOp (gI0 fun i j => .int (i - j)) (fOp (gI cShl fun i j => .int (i * 2 ^ j.toNat)) (fC (.int 1)) (fVar 1)) (fC (.int 1)))) (fVar 4)))
    (fRetO 2))
def F__heads : FF := mkF 2 N__heads.length fs__heads
theorem ok__heads {f : Addr} {fd : FuncData} {k : Nat} (F : Fun K "_heads" "_heads" s__heads f fd)
    (z_enumerate : mg "enumerate" = none) : FnOk P w K mg base CX0 (k + 1) f fd ["numbers", "length"] (spOf K Ps (ofF E0 F__heads)) :=
  okF (N := N__heads) (n := 2) (fs := fs__heads) F sc__heads rfl fun cdv A outer s H E hr => ⟨_, (have nd := sc__heads.nd
    psd_cons (psd_setO (i := 2) nd rfl (by first | exact Or.inl rfl | exact Or.inr rfl) (pn_rep (pn_lst (pda_cons (pw_dat (pd_c pe_int (fun _ _ => .int _))) (pda_nil))) (pd_op op_shlW (op2_I fun _ _ _ _ => .int _) (pd_c pe_int (fun _ _ => .int _)) (pd_var (pv 1)))))
    (psd_cons (psd_for PassesOwn.never rfl (pid_enum (by rfl) z_enumerate (pda_cons (pw_dat (pd_var (pv 0))) (pda_nil))) (pgd_tup rfl (pgsd_cons (pgd_name (pg_name (i := 3) nd rfl (by first | exact Or.inl rfl | exact Or.inr rfl))) (pgsd_cons (pgd_name (pg_name (i := 4) nd rfl (by first | exact Or.inl rfl | exact Or.inr rfl))) (pgsd_nil)))) (psd_one (psd_augIx (pv 2) (pd_op op_and (op2_I0 fun _ _ _ _ => .int _) (pd_var (pv 3)) (pd_op op_sub (op2_I0 fun _ _ _ _ => .int _) (pd_op op_shlW (op2_I fun _ _ _ _ => .int _) (pd_c pe_int (fun _ _ => .int _)) (pd_var (pv 1))) (pd_c pe_int (fun _ _ => .int _)))) (pd_var (pv 4)))))
    (psd_one (psd_retO (pv 2))))),
    (les_seq (les_setO (le_rep (le_lst (le_cons (le_c) (le_nil))) (le_op (leop_I cShl_ok) (le_c) (le_var))))
    (les_seq (les_for (le_enum (le_cons (le_var) (le_nil))) (le_gTup (le_gsCons (le_gSet) (le_gsCons (le_gSet) (le_gsNil)))) (les_augIx (le_op (leop_I0) (le_var) (le_op (leop_I0) (le_op (leop_I cShl_ok) (le_c) (le_var)) (le_c))) (le_var)))
    (les_retO)))⟩
abbrev s__hybrid_of : Stmt := topS 43
abbrev N__hybrid_of : List PySem.Str := ["m", "draw", "length", "heads", "spread", "word"]
theorem sc__hybrid_of : FnScope N__hybrid_of ["m", "draw", "length"] (defScope s__hybrid_of) := ⟨rfl, rfl, rfl, by decide +kernel, rfl, by decide +kernel, by decide +kernel⟩
def fs__hybrid_of : FS :=
  fSeq (fSet 3 (fCall F__heads (fCons (fIx (fVarQ 1) (fC (.int 1))) (fCons (fVar 2) (fNil)))))
    (fSeq (fSet 4 (fL (fLc (fRange1 (fCons (fOp (gI cShl fun i j => .int (i * 2 ^ j.toNat)) (fC (.int 1)) (fVar 0)) (fNil))) (fgSet 5) (fYes) (fIx (fVarQ 3) (fOp (gI0 fun i j => .int (Builtin.bitAnd i j)) (fVar 5) (fOp (gI0 fun i j => .int (i - j)) (fOp (gI cShl fun i j => .int (i * 2 ^ j.toNat)) (fC (.int 1)) (fVar 2)) (fC (.int 1))))) [5])))
    (fRet (fCall F_lowest_row (fCons (fOp (gI cShl fun i j => .int (i * 2 ^ j.toNat)) (fIx (fVarQ 1) (fC (.int 0))) (fOp (gI0 fun i j => .int (i - j)) (fVar 0) (fVar 2))) (fCons (fVar 4) (fNil))))))
def F__hybrid_of : FF := mkF 3 N__hybrid_of.length fs__hybrid_of
theorem ok__hybrid_of {f : Addr} {fd : FuncData} {k : Nat} (F : Fun K "_hybrid_of" "_hybrid_of" s__hybrid_of f fd)
    (z_range : mg "range" = none)
    {f__heads : Addr} {d__heads : FuncData} {l__heads : Nat} (h__heads : l__heads ≤ k) (G__heads : FnOk P w K mg base CX0 l__heads f__heads d__heads ["numbers", "length"] (spOf K Ps (ofF E0 F__heads))) (g__heads : mg "_heads" = some (.ref f__heads)) (k__heads : PySem.W.keepIn K (.ref f__heads) = true) (b__heads : Binds K d__heads ["numbers", "length"] [])
    {f_lowest_row : Addr} {d_lowest_row : FuncData} {l_lowest_row : Nat} (h_lowest_row : l_lowest_row ≤ k) (G_lowest_row : FnOk P w K mg base CX0 l_lowest_row f_lowest_row d_lowest_row ["bottom", "numbers"] (spOf K Ps (ofF E0 F_lowest_row))) (g_lowest_row : mg "lowest_row" = some (.ref f_lowest_row)) (k_lowest_row : PySem.W.keepIn K (.ref f_lowest_row) = true) (b_lowest_row : Binds K d_lowest_row ["bottom", "numbers"] []) : FnOk P w K mg base CX0 (k + 1) f fd ["m", "draw", "length"] (spOf K Ps (ofF E0 F__hybrid_of)) :=
  okF (N := N__hybrid_of) (n := 3) (fs := fs__hybrid_of) F sc__hybrid_of rfl fun cdv A outer s H E hr => ⟨_, (have nd := sc__hybrid_of.nd
    psd_cons (psd_set (i := 3) nd rfl (by first | exact Or.inl rfl | exact Or.inr rfl) (pd_call G__heads (hr.mono (by omega)) (by rfl) g__heads k__heads b__heads (pda_cons (pw_dat (pd_ix (pq_var (pv 1)) (pd_c pe_int (fun _ _ => .int _)) (fun _ _ => rfl))) (pda_cons (pw_dat (pd_var (pv 2))) (pda_nil)))))
    (psd_cons (psd_setLc (i := 4) (own := [("word", 5)]) rfl nd rfl rfl (sw_true rfl rfl rfl (by decide +kernel)) (pid_range1 (by rfl) z_range (pda_cons (pw_dat (pd_op op_shlW (op2_I fun _ _ _ _ => .int _) (pd_c pe_int (fun _ _ => .int _)) (pd_var (pv 0)))) (pda_nil))) (blkOk_by (N := N__hybrid_of) (sc := defScope s__hybrid_of) (by decide +kernel)) (fun _ _ _ _ _ => pgd_name (pg_name (i := 5) nd rfl (by first | exact Or.inl rfl | exact Or.inr rfl))) (fun _ _ _ _ _ => ptsd_nil) (fun _ _ _ _ _ => pd_ix (pq_var (pv 3)) (pd_op op_and (op2_I0 fun _ _ _ _ => .int _) (pd_var (pv 5)) (pd_op op_sub (op2_I0 fun _ _ _ _ => .int _) (pd_op op_shlW (op2_I fun _ _ _ _ => .int _) (pd_c pe_int (fun _ _ => .int _)) (pd_var (pv 2))) (pd_c pe_int (fun _ _ => .int _)))) (fun _ _ => rfl)))
    (psd_one (psd_ret (pd_call G_lowest_row (hr.mono (by omega)) (by rfl) g_lowest_row k_lowest_row b_lowest_row (pda_cons (pw_dat (pd_op op_shlW (op2_I fun _ _ _ _ => .int _) (pd_ix (pq_var (pv 1)) (pd_c pe_int (fun _ _ => .int _)) (fun _ _ => rfl)) (pd_op op_sub (op2_I0 fun _ _ _ _ => .int _) (pd_var (pv 0)) (pd_var (pv 2))))) (pda_cons (pw_dat (pd_var (pv 4))) (pda_nil)))))))),
    (les_seq (les_set (le_call (le_cons (le_ix (le_varQ) (le_c)) (le_cons (le_var) (le_nil)))))
    (les_seq (les_set (le_L (le_lc (le_range1 (le_cons (le_op (leop_I cShl_ok) (le_c) (le_var)) (le_nil))) (le_gSet) (le_yes) (le_ix (le_varQ) (le_op (leop_I0) (le_var) (le_op (leop_I0) (le_op (leop_I cShl_ok) (le_c) (le_var)) (le_c)))))))
    (les_ret (le_call (le_cons (le_op (leop_I cShl_ok) (le_ix (le_varQ) (le_c)) (le_op (leop_I0) (le_var) (le_var))) (le_cons (le_var) (le_nil)))))))⟩
abbrev s_hybrid : Stmt := topS 44
abbrev N_hybrid : List PySem.Str := ["m", "draw", "number"]
theorem sc_hybrid : FnScope N_hybrid ["m", "draw", "number"] (defScope s_hybrid) := ⟨rfl, rfl, rfl, by decide +kernel, rfl, by decide +kernel, by decide +kernel⟩
def fs_hybrid : FS :=
  fSeq (fDrop (fCall F__need_bits_and_draw (fCons (fVar 0) (fCons (fVar 1) (fNil)))))
    (fSeq (fDrop (fCall F_need_number (fCons (fVar 2) (fCons (fC (.int 0)) (fCons (fVar 0) (fNil))))))
    (fRet (fCall F__hybrid_of (fCons (fVar 0) (fCons (fVar 1) (fCons (fVar 2) (fNil)))))))
def F_hybrid : FF := mkF 3 N_hybrid.length fs_hybrid
theorem ok_hybrid {f : Addr} {fd : FuncData} {k : Nat} (F : Fun K "hybrid" "hybrid" s_hybrid f fd)
    {f__need_bits_and_draw : Addr} {d__need_bits_and_draw : FuncData} {l__need_bits_and_draw : Nat} (h__need_bits_and_draw : l__need_bits_and_draw ≤ k) (G__need_bits_and_draw : FnOk P w K mg base CX0 l__need_bits_and_draw f__need_bits_and_draw d__need_bits_and_draw ["m", "draw"] (spOf K Ps (ofF E0 F__need_bits_and_draw))) (g__need_bits_and_draw : mg "_need_bits_and_draw" = some (.ref f__need_bits_and_draw)) (k__need_bits_and_draw : PySem.W.keepIn K (.ref f__need_bits_and_draw) = true) (b__need_bits_and_draw : Binds K d__need_bits_and_draw ["m", "draw"] [])
    {f_need_number : Addr} {d_need_number : FuncData} {l_need_number : Nat} (h_need_number : l_need_number ≤ k) (G_need_number : FnOk P w K mg base CX0 l_need_number f_need_number d_need_number ["value", "low", "high"] (spOf K Ps (ofF E0 F_need_number))) (g_need_number : mg "need_number" = some (.ref f_need_number)) (k_need_number : PySem.W.keepIn K (.ref f_need_number) = true) (b_need_number : Binds K d_need_number ["value", "low", "high"] [])
    {f__hybrid_of : Addr} {d__hybrid_of : FuncData} {l__hybrid_of : Nat} (h__hybrid_of : l__hybrid_of ≤ k) (G__hybrid_of : FnOk P w K mg base CX0 l__hybrid_of f__hybrid_of d__hybrid_of ["m", "draw", "length"] (spOf K Ps (ofF E0 F__hybrid_of))) (g__hybrid_of : mg "_hybrid_of" = some (.ref f__hybrid_of)) (k__hybrid_of : PySem.W.keepIn K (.ref f__hybrid_of) = true) (b__hybrid_of : Binds K d__hybrid_of ["m", "draw", "length"] []) : FnOk P w K mg base CX0 (k + 1) f fd ["m", "draw", "number"] (spOf K Ps (ofF E0 F_hybrid)) :=
  okF (N := N_hybrid) (n := 3) (fs := fs_hybrid) F sc_hybrid rfl fun cdv A outer s H E hr => ⟨_, (have nd := sc_hybrid.nd
    psd_cons (psd_expr (pd_call G__need_bits_and_draw (hr.mono (by omega)) (by rfl) g__need_bits_and_draw k__need_bits_and_draw b__need_bits_and_draw (pda_cons (pw_dat (pd_var (pv 0))) (pda_cons (pw_dat (pd_var (pv 1))) (pda_nil)))))
    (psd_cons (psd_expr (pd_call G_need_number (hr.mono (by omega)) (by rfl) g_need_number k_need_number b_need_number (pda_cons (pw_dat (pd_var (pv 2))) (pda_cons (pw_dat (pd_c pe_int (fun _ _ => .int _))) (pda_cons (pw_dat (pd_var (pv 0))) (pda_nil))))))
    (psd_one (psd_ret (pd_call G__hybrid_of (hr.mono (by omega)) (by rfl) g__hybrid_of k__hybrid_of b__hybrid_of (pda_cons (pw_dat (pd_var (pv 0))) (pda_cons (pw_dat (pd_var (pv 1))) (pda_cons (pw_dat (pd_var (pv 2))) (pda_nil))))))))),
    (les_seq (les_drop (le_call (le_cons (le_var) (le_cons (le_var) (le_nil)))))
    (les_seq (les_drop (le_call (le_cons (le_var) (le_cons (le_c) (le_cons (le_var) (le_nil))))))
    (les_ret (le_call (le_cons (le_var) (le_cons (le_var) (le_cons (le_var) (le_nil))))))))⟩
abbrev s_steps : Stmt := topS 45
abbrev N_steps : List PySem.Str := ["m", "draw", "test", "chances", "length", "i"]
theorem sc_steps : FnScope N_steps ["m", "draw", "test"] (defScope s_steps) := ⟨rfl, rfl, rfl, by decide +kernel, rfl, by decide +kernel, by decide +kernel⟩
def fs_steps : FS :=
  fSeq (fDrop (fCall F__need_bits_and_draw (fCons (fVar 0) (fCons (fVar 1) (fNil)))))
    (fSeq (fDrop (fCall F_need_table (fCons (fVar 2) (fCons (fVar 0) (fNil)))))
    (fSeq (fSet 3 (fL (fLc (fRange1 (fCons (fOp (gI0 fun i j => .int (i + j)) (fVar 0) (fC (.int 1))) (fNil))) (fgSet 4) (fYes) (fCall F_chance_of (fCons (fCall F__hybrid_of (fCons (fVar 0) (fCons (fVar 1) (fCons (fVar 4) (fNil))))) (fCons (fVar 2) (fNil)))) [4])))
    (fRet (fOpQ gTuple (fSeqE (fL (fLc (fRange1 (fCons (fVar 0) (fNil))) (fgSet 5) (fYes) (fCall F_minus (fCons (fIx (fVarQ 3) (fOp (gI0 fun i j => .int (i + j)) (fVar 5) (fC (.int 1)))) (fCons (fIx (fVarQ 3) (fVar 5)) (fNil)))) [5])))))))
def F_steps : FF := mkF 3 N_steps.length fs_steps
theorem ok_steps {f : Addr} {fd : FuncData} {k : Nat} (F : Fun K "steps" "steps" s_steps f fd)
    (z_range : mg "range" = none)
    (z_tuple : mg "tuple" = none)
    {f__need_bits_and_draw : Addr} {d__need_bits_and_draw : FuncData} {l__need_bits_and_draw : Nat} (h__need_bits_and_draw : l__need_bits_and_draw ≤ k) (G__need_bits_and_draw : FnOk P w K mg base CX0 l__need_bits_and_draw f__need_bits_and_draw d__need_bits_and_draw ["m", "draw"] (spOf K Ps (ofF E0 F__need_bits_and_draw))) (g__need_bits_and_draw : mg "_need_bits_and_draw" = some (.ref f__need_bits_and_draw)) (k__need_bits_and_draw : PySem.W.keepIn K (.ref f__need_bits_and_draw) = true) (b__need_bits_and_draw : Binds K d__need_bits_and_draw ["m", "draw"] [])
    {f_need_table : Addr} {d_need_table : FuncData} {l_need_table : Nat} (h_need_table : l_need_table ≤ k) (G_need_table : FnOk P w K mg base CX0 l_need_table f_need_table d_need_table ["value", "bits"] (spOf K Ps (ofF E0 F_need_table))) (g_need_table : mg "need_table" = some (.ref f_need_table)) (k_need_table : PySem.W.keepIn K (.ref f_need_table) = true) (b_need_table : Binds K d_need_table ["value", "bits"] [])
    {f__hybrid_of : Addr} {d__hybrid_of : FuncData} {l__hybrid_of : Nat} (h__hybrid_of : l__hybrid_of ≤ k) (G__hybrid_of : FnOk P w K mg base CX0 l__hybrid_of f__hybrid_of d__hybrid_of ["m", "draw", "length"] (spOf K Ps (ofF E0 F__hybrid_of))) (g__hybrid_of : mg "_hybrid_of" = some (.ref f__hybrid_of)) (k__hybrid_of : PySem.W.keepIn K (.ref f__hybrid_of) = true) (b__hybrid_of : Binds K d__hybrid_of ["m", "draw", "length"] [])
    {f_chance_of : Addr} {d_chance_of : FuncData} {l_chance_of : Nat} (h_chance_of : l_chance_of ≤ k) (G_chance_of : FnOk P w K mg base CX0 l_chance_of f_chance_of d_chance_of ["draw", "test"] (spOf K Ps (ofF E0 F_chance_of))) (g_chance_of : mg "chance_of" = some (.ref f_chance_of)) (k_chance_of : PySem.W.keepIn K (.ref f_chance_of) = true) (b_chance_of : Binds K d_chance_of ["draw", "test"] [])
    {f_minus : Addr} {d_minus : FuncData} {l_minus : Nat} (h_minus : l_minus ≤ k) (G_minus : FnOk P w K mg base CX0 l_minus f_minus d_minus ["one", "other"] (spOf K Ps (ofF E0 F_minus))) (g_minus : mg "minus" = some (.ref f_minus)) (k_minus : PySem.W.keepIn K (.ref f_minus) = true) (b_minus : Binds K d_minus ["one", "other"] []) : FnOk P w K mg base CX0 (k + 1) f fd ["m", "draw", "test"] (spOf K Ps (ofF E0 F_steps)) :=
  okF (N := N_steps) (n := 3) (fs := fs_steps) F sc_steps rfl fun cdv A outer s H E hr => ⟨_, (have nd := sc_steps.nd
    psd_cons (psd_expr (pd_call G__need_bits_and_draw (hr.mono (by omega)) (by rfl) g__need_bits_and_draw k__need_bits_and_draw b__need_bits_and_draw (pda_cons (pw_dat (pd_var (pv 0))) (pda_cons (pw_dat (pd_var (pv 1))) (pda_nil)))))
    (psd_cons (psd_expr (pd_call G_need_table (hr.mono (by omega)) (by rfl) g_need_table k_need_table b_need_table (pda_cons (pw_dat (pd_var (pv 2))) (pda_cons (pw_dat (pd_var (pv 0))) (pda_nil)))))
    (psd_cons (psd_set (i := 3) nd rfl (by first | exact Or.inl rfl | exact Or.inr rfl) (pd_new (pn_lc (own := [("length", 4)]) rfl nd (pid_range1 (by rfl) z_range (pda_cons (pw_dat (pd_op op_add (op2_I0 fun _ _ _ _ => .int _) (pd_var (pv 0)) (pd_c pe_int (fun _ _ => .int _)))) (pda_nil))) (blkOk_by (N := N_steps) (sc := defScope s_steps) (by decide +kernel)) (fun _ _ _ _ _ => pgd_name (pg_name (i := 4) nd rfl (by first | exact Or.inl rfl | exact Or.inr rfl))) (fun _ _ _ _ _ => ptsd_nil) (fun _ _ _ _ _ => pd_call G_chance_of (hr.mono (by omega)) (by rfl) g_chance_of k_chance_of b_chance_of (pda_cons (pw_dat (pd_call G__hybrid_of (hr.mono (by omega)) (by rfl) g__hybrid_of k__hybrid_of b__hybrid_of (pda_cons (pw_dat (pd_var (pv 0))) (pda_cons (pw_dat (pd_var (pv 1))) (pda_cons (pw_dat (pd_var (pv 4))) (pda_nil)))))) (pda_cons (pw_dat (pd_var (pv 2))) (pda_nil)))))))
    (psd_one (psd_ret (pd_tuple (by rfl) z_tuple Dl.b_tuple (pq_dat (pd_new (pn_lc (own := [("i", 5)]) rfl nd (pid_range1 (by rfl) z_range (pda_cons (pw_dat (pd_var (pv 0))) (pda_nil))) (blkOk_by (N := N_steps) (sc := defScope s_steps) (by decide +kernel)) (fun _ _ _ _ _ => pgd_name (pg_name (i := 5) nd rfl (by first | exact Or.inl rfl | exact Or.inr rfl))) (fun _ _ _ _ _ => ptsd_nil) (fun _ _ _ _ _ => pd_call G_minus (hr.mono (by omega)) (by rfl) g_minus k_minus b_minus (pda_cons (pw_dat (pd_ix (pq_var (pv 3)) (pd_op op_add (op2_I0 fun _ _ _ _ => .int _) (pd_var (pv 5)) (pd_c pe_int (fun _ _ => .int _))) (fun _ _ => rfl))) (pda_cons (pw_dat (pd_ix (pq_var (pv 3)) (pd_var (pv 5)) (fun _ _ => rfl))) (pda_nil))))))))))))),
    (les_seq (les_drop (le_call (le_cons (le_var) (le_cons (le_var) (le_nil)))))
    (les_seq (les_drop (le_call (le_cons (le_var) (le_cons (le_var) (le_nil)))))
    (les_seq (les_set (le_L (le_lc (le_range1 (le_cons (le_op (leop_I0) (le_var) (le_c)) (le_nil))) (le_gSet) (le_yes) (le_call (le_cons (le_call (le_cons (le_var) (le_cons (le_var) (le_cons (le_var) (le_nil))))) (le_cons (le_var) (le_nil)))))))
    (les_ret (le_opQ leq_tuple (le_seqE (le_L (le_lc (le_range1 (le_cons (le_var) (le_nil))) (le_gSet) (le_yes) (le_call (le_cons (le_ix (le_varQ) (le_op (leop_I0) (le_var) (le_c))) (le_cons (le_ix (le_varQ) (le_var)) (le_nil))))))))))))⟩
abbrev s__law_wb_hat : Stmt := topS 47
abbrev N__law_wb_hat : List PySem.Str := ["script", "spot", "cell", "great"]
theorem sc__law_wb_hat : FnScope N__law_wb_hat ["script", "spot"] (defScope s__law_wb_hat) := ⟨rfl, rfl, rfl, by decide +kernel, rfl, by decide +kernel, by decide +kernel⟩
abbrev s__law_wb_up : Stmt := topS 48
abbrev N__law_wb_up : List PySem.Str := ["hat", "total", "one", "two", "found"]
theorem sc__law_wb_up : FnScope N__law_wb_up ["hat", "total"] (defScope s__law_wb_up) := ⟨rfl, rfl, rfl, by decide +kernel, rfl, by decide +kernel, by decide +kernel⟩
abbrev s__law_wb_two : Stmt := topS 49
abbrev N__law_wb_two : List PySem.Str := ["many", "found", "turn"]
theorem sc__law_wb_two : FnScope N__law_wb_two ["many"] (defScope s__law_wb_two) := ⟨rfl, rfl, rfl, by decide +kernel, rfl, by decide +kernel, by decide +kernel⟩
def fs__law_wb_two : FS :=
  fSeq (fSet 1 (fC (.int 1)))
    (fSeq (fFor (fRange1 (fCons (fVar 0) (fNil))) (fgSet 2) (fSet 1 (fOp (gI cMul fun i j => .int (i * j)) (fC (.int 2)) (fVar 1))))
    (fRet (fVar 1)))
def F__law_wb_two : FF := mkF 1 N__law_wb_two.length fs__law_wb_two
theorem ok__law_wb_two {f : Addr} {fd : FuncData} {k : Nat} (F : Fun K "_law_wb_two" "_law_wb_two" s__law_wb_two f fd)
    (z_range : mg "range" = none) : FnOk P w K mg base CX0 (k + 1) f fd ["many"] (spOf K Ps (ofF E0 F__law_wb_two)) :=
  okF (N := N__law_wb_two) (n := 1) (fs := fs__law_wb_two) F sc__law_wb_two rfl fun cdv A outer s H E hr => ⟨_, (have nd := sc__law_wb_two.nd
    psd_cons (psd_set (i := 1) nd rfl (by first | exact Or.inl rfl | exact Or.inr rfl) (pd_c pe_int (fun _ _ => .int _)))
    (psd_cons (psd_for PassesOwn.never rfl (pid_range1 (by rfl) z_range (pda_cons (pw_dat (pd_var (pv 0))) (pda_nil))) (pgd_name (pg_name (i := 2) nd rfl (by first | exact Or.inl rfl | exact Or.inr rfl))) (psd_one (psd_set (i := 1) nd rfl (by first | exact Or.inl rfl | exact Or.inr rfl) (pd_op op_mulE (op2_I fun _ _ _ _ => .int _) (pd_c pe_int (fun _ _ => .int _)) (pd_var (pv 1))))))
    (psd_one (psd_ret (pd_var (pv 1)))))),
    (les_seq (les_set (le_c))
    (les_seq (les_for (le_range1 (le_cons (le_var) (le_nil))) (le_gSet) (les_set (le_op (leop_I cMul_ok) (le_c) (le_var))))
    (les_ret (le_var))))⟩
abbrev s__law_wb_of : Stmt := topS 50
abbrev N__law_wb_of : List PySem.Str := ["hat", "items"]
theorem sc__law_wb_of : FnScope N__law_wb_of ["hat", "items"] (defScope s__law_wb_of) := ⟨rfl, rfl, rfl, by decide +kernel, rfl, by decide +kernel, by decide +kernel⟩
def db__law_wb_of (SD__law_wb_up : DSp) : DS :=
  dRet (dIx (dVarQ 1) (dCall SD__law_wb_up (dCons (dHat 0) (dCons (dD (dOpQ fLen (dVarQ 1))) (dNil)))))
theorem ok__law_wb_of {f : Addr} {fd : FuncData} {k : Nat} {SD : DSp} (F : Fun K "_law_wb_of" "_law_wb_of" s__law_wb_of f fd) (len : ∀ ws Q, SD ws Q → ws.length = 2)
    (z_len : mg "len" = none)
    {f__law_wb_up : Addr} {d__law_wb_up : FuncData} {l__law_wb_up : Nat} {SD__law_wb_up : DSp} (h__law_wb_up : l__law_wb_up ≤ k) (G__law_wb_up : FnOk P w K mg base CX0 l__law_wb_up f__law_wb_up d__law_wb_up ["hat", "total"] (spOf K Ps SD__law_wb_up)) (g__law_wb_up : mg "_law_wb_up" = some (.ref f__law_wb_up)) (k__law_wb_up : PySem.W.keepIn K (.ref f__law_wb_up) = true) (b__law_wb_up : Binds K d__law_wb_up ["hat", "total"] [])
    (pu : ∀ ws Qd, SD ws Qd → db__law_wb_of SD__law_wb_up { nx := fun _ => Qd .none, rt := Qd } (startD N__law_wb_of.length ws)) : FnOk P w K mg base CX0 (k + 1) f fd ["hat", "items"] (spOf K Ps SD) :=
  okD F sc__law_wb_of len fun cdv A outer s H E hr => ⟨_, (have nd := sc__law_wb_of.nd
    psd_one (psd_ret (pd_ix (pq_var (pv 1)) (pd_call G__law_wb_up (hr.mono (by omega)) (by rfl) g__law_wb_up k__law_wb_up b__law_wb_up (pda_cons (pw_hat (pv 0)) (pda_cons (pw_dat (pd_len (by rfl) z_len (pq_var (pv 1)))) (pda_nil)))) (fun _ _ => rfl)))), pu⟩
abbrev s__law_wb_shared : Stmt := topS 51
abbrev N__law_wb_shared : List PySem.Str := ["one", "other"]
theorem sc__law_wb_shared : FnScope N__law_wb_shared ["one", "other"] (defScope s__law_wb_shared) := ⟨rfl, rfl, rfl, by decide +kernel, rfl, by decide +kernel, by decide +kernel⟩
def fs__law_wb_shared : FS :=
  fSeq (fPar 0 1 (fCons (fOpN gAbs (fCons (fVar 0) (fNil))) (fCons (fOpN gAbs (fCons (fVar 1) (fNil))) (fNil))))
    (fSeq (fWhile 1000000000 (fTest (fOp (gEq true) (fVar 1) (fC (.int 0)))) (fPar 0 1 (fCons (fVar 1) (fCons (fOp (gI cPos fun i j => .int (i % j)) (fVar 0) (fVar 1)) (fNil)))))
    (fRet (fVar 0)))
def F__law_wb_shared : FF := mkF 2 N__law_wb_shared.length fs__law_wb_shared
theorem ok__law_wb_shared {f : Addr} {fd : FuncData} {k : Nat} (F : Fun K "_law_wb_shared" "_law_wb_shared" s__law_wb_shared f fd)
    (z_abs : mg "abs" = none) : FnOk P w K mg base CX0 (k + 1) f fd ["one", "other"] (spOf K Ps (ofF E0 F__law_wb_shared)) :=
  okF (N := N__law_wb_shared) (n := 2) (fs := fs__law_wb_shared) F sc__law_wb_shared rfl fun cdv A outer s H E hr => ⟨_, (have nd := sc__law_wb_shared.nd
    psd_cons (psd_par (i := 0) (j := 1) rfl nd rfl rfl (by decide) rfl rfl (pda_cons (pw_dat (pd_callN call_abs opn_abs (by rfl) z_abs Dl.b_abs (pda_cons (pw_dat (pd_var (pv 0))) (pda_nil)))) (pda_cons (pw_dat (pd_callN call_abs opn_abs (by rfl) z_abs Dl.b_abs (pda_cons (pw_dat (pd_var (pv 1))) (pda_nil)))) (pda_nil))) (by rfl))
    (psd_cons (psd_while PassesOwn.never (pt_d_cmp (op_neD hr.units) (op2_ne) (pd_var (pv 1)) (pd_c pe_int (fun _ _ => .int _)) (nomark _)) (psd_one (psd_par (i := 0) (j := 1) rfl nd rfl rfl (by decide) rfl rfl (pda_cons (pw_dat (pd_var (pv 1))) (pda_cons (pw_dat (pd_op op_mod (op2_I fun _ _ _ _ => .int _) (pd_var (pv 0)) (pd_var (pv 1)))) (pda_nil))) (by rfl))))
    (psd_one (psd_ret (pd_var (pv 0)))))),
    (les_seq (les_par (le_cons (le_opN len_abs (le_cons (le_var) (le_nil))) (le_cons (le_opN len_abs (le_cons (le_var) (le_nil))) (le_nil))))
    (les_seq (les_while (le_test (le_op (leop_eq) (le_var) (le_c))) (les_par (le_cons (le_var) (le_cons (le_op (leop_I cPos_ok) (le_var) (le_var)) (le_nil)))))
    (les_ret (le_var))))⟩
abbrev s__law_wb_frac : Stmt := topS 52
abbrev N__law_wb_frac : List PySem.Str := ["top", "bottom", "shared"]
theorem sc__law_wb_frac : FnScope N__law_wb_frac ["top", "bottom"] (defScope s__law_wb_frac) := ⟨rfl, rfl, rfl, by decide +kernel, rfl, by decide +kernel, by decide +kernel⟩
def fs__law_wb_frac : FS :=
  fSeq (fSet 2 (fCall F__law_wb_shared (fCons (fVar 0) (fCons (fVar 1) (fNil)))))
    (fRet (fTup (fCons (fOp (gI cDiv fun i j => .int (i / j)) (fVar 0) (fVar 2)) (fCons (fOp (gI cDiv fun i j => .int (i / j)) (fVar 1) (fVar 2)) (fNil)))))
def F__law_wb_frac : FF := mkF 2 N__law_wb_frac.length fs__law_wb_frac
theorem ok__law_wb_frac {f : Addr} {fd : FuncData} {k : Nat} (F : Fun K "_law_wb_frac" "_law_wb_frac" s__law_wb_frac f fd)
    {f__law_wb_shared : Addr} {d__law_wb_shared : FuncData} {l__law_wb_shared : Nat} (h__law_wb_shared : l__law_wb_shared ≤ k) (G__law_wb_shared : FnOk P w K mg base CX0 l__law_wb_shared f__law_wb_shared d__law_wb_shared ["one", "other"] (spOf K Ps (ofF E0 F__law_wb_shared))) (g__law_wb_shared : mg "_law_wb_shared" = some (.ref f__law_wb_shared)) (k__law_wb_shared : PySem.W.keepIn K (.ref f__law_wb_shared) = true) (b__law_wb_shared : Binds K d__law_wb_shared ["one", "other"] []) : FnOk P w K mg base CX0 (k + 1) f fd ["top", "bottom"] (spOf K Ps (ofF E0 F__law_wb_frac)) :=
  okF (N := N__law_wb_frac) (n := 2) (fs := fs__law_wb_frac) F sc__law_wb_frac rfl fun cdv A outer s H E hr => ⟨_, (have nd := sc__law_wb_frac.nd
    psd_cons (psd_set (i := 2) nd rfl (by first | exact Or.inl rfl | exact Or.inr rfl) (pd_call G__law_wb_shared (hr.mono (by omega)) (by rfl) g__law_wb_shared k__law_wb_shared b__law_wb_shared (pda_cons (pw_dat (pd_var (pv 0))) (pda_cons (pw_dat (pd_var (pv 1))) (pda_nil)))))
    (psd_one (psd_ret (pd_tup (pda_cons (pw_dat (pd_op op_fdivW (op2_I fun _ _ _ _ => .int _) (pd_var (pv 0)) (pd_var (pv 2)))) (pda_cons (pw_dat (pd_op op_fdivW (op2_I fun _ _ _ _ => .int _) (pd_var (pv 1)) (pd_var (pv 2)))) (pda_nil))))))),
    (les_seq (les_set (le_call (le_cons (le_var) (le_cons (le_var) (le_nil)))))
    (les_ret (le_tup (le_cons (le_op (leop_I cDiv_ok) (le_var) (le_var)) (le_cons (le_op (leop_I cDiv_ok) (le_var) (le_var)) (le_nil))))))⟩
abbrev s__law_wb_plus : Stmt := topS 53
abbrev N__law_wb_plus : List PySem.Str := ["one", "other"]
theorem sc__law_wb_plus : FnScope N__law_wb_plus ["one", "other"] (defScope s__law_wb_plus) := ⟨rfl, rfl, rfl, by decide +kernel, rfl, by decide +kernel, by decide +kernel⟩
def fs__law_wb_plus : FS :=
  fRet (fCall F__law_wb_frac (fCons (fOp (gI0 fun i j => .int (i + j)) (fOp (gI cMul fun i j => .int (i * j)) (fIx (fVarQ 0) (fC (.int 0))) (fIx (fVarQ 1) (fC (.int 1)))) (fOp (gI cMul fun i j => .int (i * j)) (fIx (fVarQ 1) (fC (.int 0))) (fIx (fVarQ 0) (fC (.int 1))))) (fCons (fOp (gI cMul fun i j => .int (i * j)) (fIx (fVarQ 0) (fC (.int 1))) (fIx (fVarQ 1) (fC (.int 1)))) (fNil))))
def F__law_wb_plus : FF := mkF 2 N__law_wb_plus.length fs__law_wb_plus
theorem ok__law_wb_plus {f : Addr} {fd : FuncData} {k : Nat} (F : Fun K "_law_wb_plus" "_law_wb_plus" s__law_wb_plus f fd)
    {f__law_wb_frac : Addr} {d__law_wb_frac : FuncData} {l__law_wb_frac : Nat} (h__law_wb_frac : l__law_wb_frac ≤ k) (G__law_wb_frac : FnOk P w K mg base CX0 l__law_wb_frac f__law_wb_frac d__law_wb_frac ["top", "bottom"] (spOf K Ps (ofF E0 F__law_wb_frac))) (g__law_wb_frac : mg "_law_wb_frac" = some (.ref f__law_wb_frac)) (k__law_wb_frac : PySem.W.keepIn K (.ref f__law_wb_frac) = true) (b__law_wb_frac : Binds K d__law_wb_frac ["top", "bottom"] []) : FnOk P w K mg base CX0 (k + 1) f fd ["one", "other"] (spOf K Ps (ofF E0 F__law_wb_plus)) :=
  okF (N := N__law_wb_plus) (n := 2) (fs := fs__law_wb_plus) F sc__law_wb_plus rfl fun cdv A outer s H E hr => ⟨_, (have nd := sc__law_wb_plus.nd
    psd_one (psd_ret (pd_call G__law_wb_frac (hr.mono (by omega)) (by rfl) g__law_wb_frac k__law_wb_frac b__law_wb_frac (pda_cons (pw_dat (pd_op op_add (op2_I0 fun _ _ _ _ => .int _) (pd_op op_mulE (op2_I fun _ _ _ _ => .int _) (pd_ix (pq_var (pv 0)) (pd_c pe_int (fun _ _ => .int _)) (fun _ _ => rfl)) (pd_ix (pq_var (pv 1)) (pd_c pe_int (fun _ _ => .int _)) (fun _ _ => rfl))) (pd_op op_mulE (op2_I fun _ _ _ _ => .int _) (pd_ix (pq_var (pv 1)) (pd_c pe_int (fun _ _ => .int _)) (fun _ _ => rfl)) (pd_ix (pq_var (pv 0)) (pd_c pe_int (fun _ _ => .int _)) (fun _ _ => rfl))))) (pda_cons (pw_dat (pd_op op_mulE (op2_I fun _ _ _ _ => .int _) (pd_ix (pq_var (pv 0)) (pd_c pe_int (fun _ _ => .int _)) (fun _ _ => rfl)) (pd_ix (pq_var (pv 1)) (pd_c pe_int (fun _ _ => .int _)) (fun _ _ => rfl)))) (pda_nil)))))),
    (les_ret (le_call (le_cons (le_op (leop_I0) (le_op (leop_I cMul_ok) (le_ix (le_varQ) (le_c)) (le_ix (le_varQ) (le_c))) (le_op (leop_I cMul_ok) (le_ix (le_varQ) (le_c)) (le_ix (le_varQ) (le_c)))) (le_cons (le_op (leop_I cMul_ok) (le_ix (le_varQ) (le_c)) (le_ix (le_varQ) (le_c))) (le_nil)))))⟩
abbrev s__law_wb_less : Stmt := topS 54
abbrev N__law_wb_less : List PySem.Str := ["one", "other"]
theorem sc__law_wb_less : FnScope N__law_wb_less ["one", "other"] (defScope s__law_wb_less) := ⟨rfl, rfl, rfl, by decide +kernel, rfl, by decide +kernel, by decide +kernel⟩
def fs__law_wb_less : FS :=
  fRet (fCall F__law_wb_frac (fCons (fOp (gI0 fun i j => .int (i - j)) (fOp (gI cMul fun i j => .int (i * j)) (fIx (fVarQ 0) (fC (.int 0))) (fIx (fVarQ 1) (fC (.int 1)))) (fOp (gI cMul fun i j => .int (i * j)) (fIx (fVarQ 1) (fC (.int 0))) (fIx (fVarQ 0) (fC (.int 1))))) (fCons (fOp (gI cMul fun i j => .int (i * j)) (fIx (fVarQ 0) (fC (.int 1))) (fIx (fVarQ 1) (fC (.int 1)))) (fNil))))
def F__law_wb_less : FF := mkF 2 N__law_wb_less.length fs__law_wb_less
theorem ok__law_wb_less {f : Addr} {fd : FuncData} {k : Nat} (F : Fun K "_law_wb_less" "_law_wb_less" s__law_wb_less f fd)
    {f__law_wb_frac : Addr} {d__law_wb_frac : FuncData} {l__law_wb_frac : Nat} (h__law_wb_frac : l__law_wb_frac ≤ k) (G__law_wb_frac : FnOk P w K mg base CX0 l__law_wb_frac f__law_wb_frac d__law_wb_frac ["top", "bottom"] (spOf K Ps (ofF E0 F__law_wb_frac))) (g__law_wb_frac : mg "_law_wb_frac" = some (.ref f__law_wb_frac)) (k__law_wb_frac : PySem.W.keepIn K (.ref f__law_wb_frac) = true) (b__law_wb_frac : Binds K d__law_wb_frac ["top", "bottom"] []) : FnOk P w K mg base CX0 (k + 1) f fd ["one", "other"] (spOf K Ps (ofF E0 F__law_wb_less)) :=
  okF (N := N__law_wb_less) (n := 2) (fs := fs__law_wb_less) F sc__law_wb_less rfl fun cdv A outer s H E hr => ⟨_, (have nd := sc__law_wb_less.nd
    psd_one (psd_ret (pd_call G__law_wb_frac (hr.mono (by omega)) (by rfl) g__law_wb_frac k__law_wb_frac b__law_wb_frac (pda_cons (pw_dat (pd_op op_sub (op2_I0 fun _ _ _ _ => .int _) (pd_op op_mulE (op2_I fun _ _ _ _ => .int _) (pd_ix (pq_var (pv 0)) (pd_c pe_int (fun _ _ => .int _)) (fun _ _ => rfl)) (pd_ix (pq_var (pv 1)) (pd_c pe_int (fun _ _ => .int _)) (fun _ _ => rfl))) (pd_op op_mulE (op2_I fun _ _ _ _ => .int _) (pd_ix (pq_var (pv 1)) (pd_c pe_int (fun _ _ => .int _)) (fun _ _ => rfl)) (pd_ix (pq_var (pv 0)) (pd_c pe_int (fun _ _ => .int _)) (fun _ _ => rfl))))) (pda_cons (pw_dat (pd_op op_mulE (op2_I fun _ _ _ _ => .int _) (pd_ix (pq_var (pv 0)) (pd_c pe_int (fun _ _ => .int _)) (fun _ _ => rfl)) (pd_ix (pq_var (pv 1)) (pd_c pe_int (fun _ _ => .int _)) (fun _ _ => rfl)))) (pda_nil)))))),
    (les_ret (le_call (le_cons (le_op (leop_I0) (le_op (leop_I cMul_ok) (le_ix (le_varQ) (le_c)) (le_ix (le_varQ) (le_c))) (le_op (leop_I cMul_ok) (le_ix (le_varQ) (le_c)) (le_ix (le_varQ) (le_c)))) (le_cons (le_op (leop_I cMul_ok) (le_ix (le_varQ) (le_c)) (le_ix (le_varQ) (le_c))) (le_nil)))))⟩
abbrev s__law_wb_least : Stmt := topS 55
abbrev N__law_wb_least : List PySem.Str := ["row", "shared", "number"]
theorem sc__law_wb_least : FnScope N__law_wb_least ["row"] (defScope s__law_wb_least) := ⟨rfl, rfl, rfl, by decide +kernel, rfl, by decide +kernel, by decide +kernel⟩
def fs__law_wb_least : FS :=
  fSeq (fSet 1 (fIx (fVarQ 0) (fC (.int 0))))
    (fSeq (fFor (fItS (fIx (fVarQ 0) (fC (.int 1)))) (fgSet 2) (fSet 1 (fCall F__law_wb_shared (fCons (fVar 1) (fCons (fVar 2) (fNil))))))
    (fRet (fTup (fCons (fOp (gI cDiv fun i j => .int (i / j)) (fIx (fVarQ 0) (fC (.int 0))) (fVar 1)) (fCons (fOpQ gTuple (fSeqE (fL (fLc (fItS (fIx (fVarQ 0) (fC (.int 1)))) (fgSet 2) (fYes) (fOp (gI cDiv fun i j => .int (i / j)) (fVar 2) (fVar 1)) [2])))) (fNil))))))
def F__law_wb_least : FF := mkF 1 N__law_wb_least.length fs__law_wb_least
theorem ok__law_wb_least {f : Addr} {fd : FuncData} {k : Nat} (F : Fun K "_law_wb_least" "_law_wb_least" s__law_wb_least f fd)
    (z_tuple : mg "tuple" = none)
    {f__law_wb_shared : Addr} {d__law_wb_shared : FuncData} {l__law_wb_shared : Nat} (h__law_wb_shared : l__law_wb_shared ≤ k) (G__law_wb_shared : FnOk P w K mg base CX0 l__law_wb_shared f__law_wb_shared d__law_wb_shared ["one", "other"] (spOf K Ps (ofF E0 F__law_wb_shared))) (g__law_wb_shared : mg "_law_wb_shared" = some (.ref f__law_wb_shared)) (k__law_wb_shared : PySem.W.keepIn K (.ref f__law_wb_shared) = true) (b__law_wb_shared : Binds K d__law_wb_shared ["one", "other"] []) : FnOk P w K mg base CX0 (k + 1) f fd ["row"] (spOf K Ps (ofF E0 F__law_wb_least)) :=
  okF (N := N__law_wb_least) (n := 1) (fs := fs__law_wb_least) F sc__law_wb_least rfl fun cdv A outer s H E hr => ⟨_, (have nd := sc__law_wb_least.nd
    psd_cons (psd_set (i := 1) nd rfl (by first | exact Or.inl rfl | exact Or.inr rfl) (pd_ix (pq_var (pv 0)) (pd_c pe_int (fun _ _ => .int _)) (fun _ _ => rfl)))
    (psd_cons (psd_for PassesOwn.never rfl (pid_seq (pd_ix (pq_var (pv 0)) (pd_c pe_int (fun _ _ => .int _)) (fun _ _ => rfl))) (pgd_name (pg_name (i := 2) nd rfl (by first | exact Or.inl rfl | exact Or.inr rfl))) (psd_one (psd_set (i := 1) nd rfl (by first | exact Or.inl rfl | exact Or.inr rfl) (pd_call G__law_wb_shared (hr.mono (by omega)) (by rfl) g__law_wb_shared k__law_wb_shared b__law_wb_shared (pda_cons (pw_dat (pd_var (pv 1))) (pda_cons (pw_dat (pd_var (pv 2))) (pda_nil)))))))
    (psd_one (psd_ret (pd_tup (pda_cons (pw_dat (pd_op op_fdivW (op2_I fun _ _ _ _ => .int _) (pd_ix (pq_var (pv 0)) (pd_c pe_int (fun _ _ => .int _)) (fun _ _ => rfl)) (pd_var (pv 1)))) (pda_cons (pw_dat (pd_tuple (by rfl) z_tuple Dl.b_tuple (pq_dat (pd_new (pn_lc (own := [("number", 2)]) rfl nd (pid_seq (pd_ix (pq_var (pv 0)) (pd_c pe_int (fun _ _ => .int _)) (fun _ _ => rfl))) (blkOk_by (N := N__law_wb_least) (sc := defScope s__law_wb_least) (by decide +kernel)) (fun _ _ _ _ _ => pgd_name (pg_name (i := 2) nd rfl (by first | exact Or.inl rfl | exact Or.inr rfl))) (fun _ _ _ _ _ => ptsd_nil) (fun _ _ _ _ _ => pd_op op_fdivW (op2_I fun _ _ _ _ => .int _) (pd_var (pv 2)) (pd_var (pv 1)))))))) (pda_nil)))))))),
    (les_seq (les_set (le_ix (le_varQ) (le_c)))
    (les_seq (les_for (le_itS (le_ix (le_varQ) (le_c))) (le_gSet) (les_set (le_call (le_cons (le_var) (le_cons (le_var) (le_nil))))))
    (les_ret (le_tup (le_cons (le_op (leop_I cDiv_ok) (le_ix (le_varQ) (le_c)) (le_var)) (le_cons (le_opQ leq_tuple (le_seqE (le_L (le_lc (le_itS (le_ix (le_varQ) (le_c))) (le_gSet) (le_yes) (le_op (leop_I cDiv_ok) (le_var) (le_var)))))) (le_nil)))))))⟩
abbrev s__law_wb_word : Stmt := topS 56
abbrev N__law_wb_word : List PySem.Str := ["many", "number", "found", "at"]
theorem sc__law_wb_word : FnScope N__law_wb_word ["many", "number"] (defScope s__law_wb_word) := ⟨rfl, rfl, rfl, by decide +kernel, rfl, by decide +kernel, by decide +kernel⟩
def fs__law_wb_word : FS :=
  fSeq (fSetO 2 (fLst (fNil)))
    (fSeq (fFor (fRange1 (fCons (fVar 0) (fNil))) (fgSet 3) (fSeq (fApp 2 (fOp (gI cPos fun i j => .int (i % j)) (fVar 1) (fC (.int 2))))
    (fSet 1 (fOp (gI cDiv fun i j => .int (i / j)) (fVar 1) (fC (.int 2))))))
    (fRet (fOpQ gTuple (fVarQ 2))))
def F__law_wb_word : FF := mkF 2 N__law_wb_word.length fs__law_wb_word
theorem ok__law_wb_word {f : Addr} {fd : FuncData} {k : Nat} (F : Fun K "_law_wb_word" "_law_wb_word" s__law_wb_word f fd)
    (z_range : mg "range" = none)
    (z_tuple : mg "tuple" = none) : FnOk P w K mg base CX0 (k + 1) f fd ["many", "number"] (spOf K Ps (ofF E0 F__law_wb_word)) :=
  okF (N := N__law_wb_word) (n := 2) (fs := fs__law_wb_word) F sc__law_wb_word rfl fun cdv A outer s H E hr => ⟨_, (have nd := sc__law_wb_word.nd
    psd_cons (psd_setO (i := 2) nd rfl (by first | exact Or.inl rfl | exact Or.inr rfl) (pn_lst (pda_nil)))
    (psd_cons (psd_for PassesOwn.never rfl (pid_range1 (by rfl) z_range (pda_cons (pw_dat (pd_var (pv 0))) (pda_nil))) (pgd_name (pg_name (i := 3) nd rfl (by first | exact Or.inl rfl | exact Or.inr rfl))) (psd_cons (psd_app (pv 2) (pd_op op_mod (op2_I fun _ _ _ _ => .int _) (pd_var (pv 1)) (pd_c pe_int (fun _ _ => .int _))))
    (psd_one (psd_set (i := 1) nd rfl (by first | exact Or.inl rfl | exact Or.inr rfl) (pd_op op_fdivW (op2_I fun _ _ _ _ => .int _) (pd_var (pv 1)) (pd_c pe_int (fun _ _ => .int _)))))))
    (psd_one (psd_ret (pd_tuple (by rfl) z_tuple Dl.b_tuple (pq_var (pv 2))))))),
    (les_seq (les_setO (le_lst (le_nil)))
    (les_seq (les_for (le_range1 (le_cons (le_var) (le_nil))) (le_gSet) (les_seq (les_app (le_op (leop_I cPos_ok) (le_var) (le_c)))
    (les_set (le_op (leop_I cDiv_ok) (le_var) (le_c)))))
    (les_ret (le_opQ leq_tuple (le_varQ)))))⟩
abbrev s__law_wb_bits : Stmt := topS 57
abbrev N__law_wb_bits : List PySem.Str := ["hat", "many", "way", "at"]
theorem sc__law_wb_bits : FnScope N__law_wb_bits ["hat", "many"] (defScope s__law_wb_bits) := ⟨rfl, rfl, rfl, by decide +kernel, rfl, by decide +kernel, by decide +kernel⟩
def db__law_wb_bits (SD__law_wb_up : DSp) : DS :=
  dSeq (dSet 2 (dCall SD__law_wb_up (dCons (dHat 0) (dCons (dD (dC (.int 9))) (dNil)))))
    (dSeq (dIf (dTest (dOp (fI0 fun i j => .bool (decide (i < j))) (dVar 2) (dC (.int 2)))) (dRet (dOp (fRepA) (dTup (dCons (dD (dVar 2)) (dNil))) (dVar 1))) (dNext))
    (dRet (dOpQ fTuple (dSeqE (dL (dLc (dRange1 (dCons (dD (dVar 1)) (dNil))) (gSet 3) (dYes) (dCall SD__law_wb_up (dCons (dHat 0) (dCons (dD (dC (.int 2))) (dNil)))) [3]))))))
theorem ok__law_wb_bits {f : Addr} {fd : FuncData} {k : Nat} {SD : DSp} (F : Fun K "_law_wb_bits" "_law_wb_bits" s__law_wb_bits f fd) (len : ∀ ws Q, SD ws Q → ws.length = 2)
    (z_range : mg "range" = none)
    (z_tuple : mg "tuple" = none)
    {f__law_wb_up : Addr} {d__law_wb_up : FuncData} {l__law_wb_up : Nat} {SD__law_wb_up : DSp} (h__law_wb_up : l__law_wb_up ≤ k) (G__law_wb_up : FnOk P w K mg base CX0 l__law_wb_up f__law_wb_up d__law_wb_up ["hat", "total"] (spOf K Ps SD__law_wb_up)) (g__law_wb_up : mg "_law_wb_up" = some (.ref f__law_wb_up)) (k__law_wb_up : PySem.W.keepIn K (.ref f__law_wb_up) = true) (b__law_wb_up : Binds K d__law_wb_up ["hat", "total"] [])
    (pu : ∀ ws Qd, SD ws Qd → db__law_wb_bits SD__law_wb_up { nx := fun _ => Qd .none, rt := Qd } (startD N__law_wb_bits.length ws)) : FnOk P w K mg base CX0 (k + 1) f fd ["hat", "many"] (spOf K Ps SD) :=
  okD F sc__law_wb_bits len fun cdv A outer s H E hr => ⟨_, (have nd := sc__law_wb_bits.nd
    psd_cons (psd_set (i := 2) nd rfl (by first | exact Or.inl rfl | exact Or.inr rfl) (pd_call G__law_wb_up (hr.mono (by omega)) (by rfl) g__law_wb_up k__law_wb_up b__law_wb_up (pda_cons (pw_hat (pv 0)) (pda_cons (pw_dat (pd_c pe_int (fun _ _ => .int _))) (pda_nil)))))
    (psd_cons (psd_if (pt_d_cmp op_lt (op2_I0 fun _ _ _ _ => .bl _) (pd_var (pv 2)) (pd_c pe_int (fun _ _ => .int _)) (nomark _)) (psd_one (psd_ret (pd_op op_repA (op2_repA) (pd_tup (pda_cons (pw_dat (pd_var (pv 2))) (pda_nil))) (pd_var (pv 1))))) (psd_nil))
    (psd_one (psd_ret (pd_tuple (by rfl) z_tuple Dl.b_tuple (pq_dat (pd_new (pn_lc (own := [("at", 3)]) rfl nd (pid_range1 (by rfl) z_range (pda_cons (pw_dat (pd_var (pv 1))) (pda_nil))) (blkOk_by (N := N__law_wb_bits) (sc := defScope s__law_wb_bits) (by decide +kernel)) (fun _ _ _ _ _ => pgd_name (pg_name (i := 3) nd rfl (by first | exact Or.inl rfl | exact Or.inr rfl))) (fun _ _ _ _ _ => ptsd_nil) (fun _ _ _ _ _ => pd_call G__law_wb_up (hr.mono (by omega)) (by rfl) g__law_wb_up k__law_wb_up b__law_wb_up (pda_cons (pw_hat (pv 0)) (pda_cons (pw_dat (pd_c pe_int (fun _ _ => .int _))) (pda_nil)))))))))))), pu⟩
abbrev s__law_wb_draw : Stmt := topS 58
abbrev N__law_wb_draw : List PySem.Str := ["hat", "many", "counts", "more", "way", "most", "at", "number"]
theorem sc__law_wb_draw : FnScope N__law_wb_draw ["hat", "many"] (defScope s__law_wb_draw) := ⟨rfl, rfl, rfl, by decide +kernel, rfl, by decide +kernel, by decide +kernel⟩
def dt__law_wb_draw : DS :=
  dFrz 2 (dRet (dTup (dCons (dD (dOp (fI CMulE fun i j => .int (i * j)) (dVar 3) (dOpQ fSumS (dVarQ 2)))) (dCons (dD (dOpQ fTuple (dSeqE (dL (dLc (dItS (dVar 2)) (gSet 7) (dYes) (dOp (fI CMulE fun i j => .int (i * j)) (dVar 3) (dVar 7)) [7]))))) (dNil)))))
def ft__law_wb_draw : FS :=
  fFrz 2 (fRet (fTup (fCons (fOp (gI cMul fun i j => .int (i * j)) (fVar 3) (fOpQ gSum (fVarQ 2))) (fCons (fOpQ gTuple (fSeqE (fL (fLc (fItS (fVar 2)) (fgSet 7) (fYes) (fOp (gI cMul fun i j => .int (i * j)) (fVar 3) (fVar 7)) [7])))) (fNil)))))
theorem lt__law_wb_draw : LeS (ofS E0 ft__law_wb_draw) dt__law_wb_draw := les_frz (les_ret (le_tup (le_cons (le_op (leop_I cMul_ok) (le_var) (le_opQ leq_sum (le_varQ))) (le_cons (le_opQ leq_tuple (le_seqE (le_L (le_lc (le_itS (le_var)) (le_gSet) (le_yes) (le_op (leop_I cMul_ok) (le_var) (le_var)))))) (le_nil)))))
def db__law_wb_draw (SD__law_wb_of SD__law_wb_up : DSp) : DS :=
  dSeq (dAsgG (gTupD 2 (gsCons (gSet 4) (gsCons (gSet 5) (gsNil)))) (dTup (dCons (dD (dCall SD__law_wb_up (dCons (dHat 0) (dCons (dD (dC (.int 6))) (dNil))))) (dCons (dD (dCall SD__law_wb_of (dCons (dHat 0) (dCons (dD (dL (dLst (dCons (dD (dC (.int 1))) (dCons (dD (dC (.int 2))) (dCons (dD (dC (.int 4))) (dCons (dD (dC (.int 9))) (dCons (dD (dOp (fI CPowB fun i j => .int (i ^ j.toNat)) (dC (.int 10)) (dC (.int 30)))) (dNil))))))))) (dNil))))) (dNil)))))
    (dSeq (dSetO 2 (dLc (dRange1 (dCons (dD (dVar 1)) (dNil))) (gSet 6) (dYes) (dCall SD__law_wb_up (dCons (dHat 0) (dCons (dD (dOp (fI0 fun i j => .int (i + j)) (dVar 5) (dC (.int 1)))) (dNil)))) [6]))
    (dSeq (dIf (dTest (dOp (fEq false) (dVar 4) (dC (.int 0)))) (dSetO 2 (dRep (dLst (dCons (dD (dC (.int 0))) (dNil))) (dVar 1))) (dNext))
    (dSeq (dAugIx 2 (dCall SD__law_wb_up (dCons (dHat 0) (dCons (dD (dVar 1)) (dNil)))) (dC (.int 1)))
    (dSeq (dIf (dTest (dOp (fEq false) (dVar 4) (dC (.int 1)))) (dSetO 2 (dRep (dLst (dCons (dD (dC (.int 1))) (dNil))) (dVar 1))) (dNext))
    (dSeq (dSet 3 (dCall SD__law_wb_of (dCons (dHat 0) (dCons (dD (dL (dLst (dCons (dD (dC (.int 1))) (dCons (dD (dC (.int 1))) (dCons (dD (dC (.int 2))) (dCons (dD (dC (.int 3))) (dNil)))))))) (dNil)))))
    (dt__law_wb_draw))))))
theorem ok__law_wb_draw {f : Addr} {fd : FuncData} {k : Nat} {SD : DSp} (F : Fun K "_law_wb_draw" "_law_wb_draw" s__law_wb_draw f fd) (len : ∀ ws Q, SD ws Q → ws.length = 2)
    (z_range : mg "range" = none)
    (z_tuple : mg "tuple" = none)
    (z_sum : mg "sum" = none)
    {f__law_wb_of : Addr} {d__law_wb_of : FuncData} {l__law_wb_of : Nat} {SD__law_wb_of : DSp} (h__law_wb_of : l__law_wb_of ≤ k) (G__law_wb_of : FnOk P w K mg base CX0 l__law_wb_of f__law_wb_of d__law_wb_of ["hat", "items"] (spOf K Ps SD__law_wb_of)) (g__law_wb_of : mg "_law_wb_of" = some (.ref f__law_wb_of)) (k__law_wb_of : PySem.W.keepIn K (.ref f__law_wb_of) = true) (b__law_wb_of : Binds K d__law_wb_of ["hat", "items"] [])
    {f__law_wb_up : Addr} {d__law_wb_up : FuncData} {l__law_wb_up : Nat} {SD__law_wb_up : DSp} (h__law_wb_up : l__law_wb_up ≤ k) (G__law_wb_up : FnOk P w K mg base CX0 l__law_wb_up f__law_wb_up d__law_wb_up ["hat", "total"] (spOf K Ps SD__law_wb_up)) (g__law_wb_up : mg "_law_wb_up" = some (.ref f__law_wb_up)) (k__law_wb_up : PySem.W.keepIn K (.ref f__law_wb_up) = true) (b__law_wb_up : Binds K d__law_wb_up ["hat", "total"] [])
    (pu : ∀ ws Qd, SD ws Qd → db__law_wb_draw SD__law_wb_of SD__law_wb_up { nx := fun _ => Qd .none, rt := Qd } (startD N__law_wb_draw.length ws)) : FnOk P w K mg base CX0 (k + 1) f fd ["hat", "many"] (spOf K Ps SD) :=
  okD F sc__law_wb_draw len fun cdv A outer s H E hr => ⟨_, (have nd := sc__law_wb_draw.nd
    psd_cons (psd_asgG (pd_tup (pda_cons (pw_dat (pd_call G__law_wb_up (hr.mono (by omega)) (by rfl) g__law_wb_up k__law_wb_up b__law_wb_up (pda_cons (pw_hat (pv 0)) (pda_cons (pw_dat (pd_c pe_int (fun _ _ => .int _))) (pda_nil))))) (pda_cons (pw_dat (pd_call G__law_wb_of (hr.mono (by omega)) (by rfl) g__law_wb_of k__law_wb_of b__law_wb_of (pda_cons (pw_hat (pv 0)) (pda_cons (pw_dat (pd_new (pn_lst (pda_cons (pw_dat (pd_c pe_int (fun _ _ => .int _))) (pda_cons (pw_dat (pd_c pe_int (fun _ _ => .int _))) (pda_cons (pw_dat (pd_c pe_int (fun _ _ => .int _))) (pda_cons (pw_dat (pd_c pe_int (fun _ _ => .int _))) (pda_cons (pw_dat (pd_op op_powB (op2_I fun _ _ _ _ => .int _) (pd_c pe_int (fun _ _ => .int _)) (pd_c pe_int (fun _ _ => .int _)))) (pda_nil))))))))) (pda_nil))))) (pda_nil)))) (pgd_tup rfl (pgsd_cons (pgd_name (pg_name (i := 4) nd rfl (by first | exact Or.inl rfl | exact Or.inr rfl))) (pgsd_cons (pgd_name (pg_name (i := 5) nd rfl (by first | exact Or.inl rfl | exact Or.inr rfl))) (pgsd_nil)))))
    (psd_cons (psd_setLcO (i := 2) (own := [("at", 6)]) rfl nd rfl rfl (sw_true rfl rfl rfl (by decide +kernel)) (pid_range1 (by rfl) z_range (pda_cons (pw_dat (pd_var (pv 1))) (pda_nil))) (blkOk_by (N := N__law_wb_draw) (sc := defScope s__law_wb_draw) (by decide +kernel)) (fun _ _ _ _ _ => pgd_name (pg_name (i := 6) nd rfl (by first | exact Or.inl rfl | exact Or.inr rfl))) (fun _ _ _ _ _ => ptsd_nil) (fun _ _ _ _ _ => pd_call G__law_wb_up (hr.mono (by omega)) (by rfl) g__law_wb_up k__law_wb_up b__law_wb_up (pda_cons (pw_hat (pv 0)) (pda_cons (pw_dat (pd_op op_add (op2_I0 fun _ _ _ _ => .int _) (pd_var (pv 5)) (pd_c pe_int (fun _ _ => .int _)))) (pda_nil)))))
    (psd_cons (psd_if (pt_d_cmp (op_eqD hr.units) (op2_eq) (pd_var (pv 4)) (pd_c pe_int (fun _ _ => .int _)) (nomark _)) (psd_one (psd_setO (i := 2) nd rfl (by first | exact Or.inl rfl | exact Or.inr rfl) (pn_rep (pn_lst (pda_cons (pw_dat (pd_c pe_int (fun _ _ => .int _))) (pda_nil))) (pd_var (pv 1))))) (psd_nil))
    (psd_cons (psd_augIx (pv 2) (pd_call G__law_wb_up (hr.mono (by omega)) (by rfl) g__law_wb_up k__law_wb_up b__law_wb_up (pda_cons (pw_hat (pv 0)) (pda_cons (pw_dat (pd_var (pv 1))) (pda_nil)))) (pd_c pe_int (fun _ _ => .int _)))
    (psd_cons (psd_if (pt_d_cmp (op_eqD hr.units) (op2_eq) (pd_var (pv 4)) (pd_c pe_int (fun _ _ => .int _)) (nomark _)) (psd_one (psd_setO (i := 2) nd rfl (by first | exact Or.inl rfl | exact Or.inr rfl) (pn_rep (pn_lst (pda_cons (pw_dat (pd_c pe_int (fun _ _ => .int _))) (pda_nil))) (pd_var (pv 1))))) (psd_nil))
    (psd_cons (psd_set (i := 3) nd rfl (by first | exact Or.inl rfl | exact Or.inr rfl) (pd_call G__law_wb_of (hr.mono (by omega)) (by rfl) g__law_wb_of k__law_wb_of b__law_wb_of (pda_cons (pw_hat (pv 0)) (pda_cons (pw_dat (pd_new (pn_lst (pda_cons (pw_dat (pd_c pe_int (fun _ _ => .int _))) (pda_cons (pw_dat (pd_c pe_int (fun _ _ => .int _))) (pda_cons (pw_dat (pd_c pe_int (fun _ _ => .int _))) (pda_cons (pw_dat (pd_c pe_int (fun _ _ => .int _))) (pda_nil)))))))) (pda_nil)))))
    (pss_frz (psd_one (psd_ret (pd_tup (pda_cons (pw_dat (pd_op op_mulE (op2_I fun _ _ _ _ => .int _) (pd_var (pv 3)) (pd_callQ (cr_sumS rfl) opq_sumS (by rfl) z_sum Dl.b_sum (pq_var (pv 2))))) (pda_cons (pw_dat (pd_tuple (by rfl) z_tuple Dl.b_tuple (pq_dat (pd_new (pn_lc (own := [("number", 7)]) rfl nd (pid_seq (pd_var (pv 2))) (blkOk_by (N := N__law_wb_draw) (sc := defScope s__law_wb_draw) (by decide +kernel)) (fun _ _ _ _ _ => pgd_name (pg_name (i := 7) nd rfl (by first | exact Or.inl rfl | exact Or.inr rfl))) (fun _ _ _ _ _ => ptsd_nil) (fun _ _ _ _ _ => pd_op op_mulE (op2_I fun _ _ _ _ => .int _) (pd_var (pv 3)) (pd_var (pv 7)))))))) (pda_nil))))))))))))), pu⟩
abbrev s__law_wb_excess : Stmt := topS 59
abbrev N__law_wb_excess : List PySem.Str := ["draw", "test", "met", "number", "bit"]
theorem sc__law_wb_excess : FnScope N__law_wb_excess ["draw", "test"] (defScope s__law_wb_excess) := ⟨rfl, rfl, rfl, by decide +kernel, rfl, by decide +kernel, by decide +kernel⟩
def fs__law_wb_excess : FS :=
  fSeq (fSet 2 (fOpQ gSum (fSeqE (fL (fLc (fZip (fCons (fIx (fVarQ 0) (fC (.int 1))) (fCons (fVar 1) (fNil)))) (fgTup 2 (fgsCons (fgSet 3) (fgsCons (fgSet 4) (fgsNil)))) (fTest (fOp (gEq false) (fVar 4) (fC (.int 1)))) (fVar 3) [3, 4])))))
    (fRet (fCall F__law_wb_frac (fCons (fOp (gI0 fun i j => .int (i - j)) (fOp (gI cMul fun i j => .int (i * j)) (fVar 2) (fOpQ gLen (fVarQ 1))) (fOp (gI cMul fun i j => .int (i * j)) (fOpQ gSum (fVarQ 1)) (fIx (fVarQ 0) (fC (.int 0))))) (fCons (fOp (gI cMul fun i j => .int (i * j)) (fIx (fVarQ 0) (fC (.int 0))) (fOpQ gLen (fVarQ 1))) (fNil)))))
def F__law_wb_excess : FF := mkF 2 N__law_wb_excess.length fs__law_wb_excess
theorem ok__law_wb_excess {f : Addr} {fd : FuncData} {k : Nat} (F : Fun K "_law_wb_excess" "_law_wb_excess" s__law_wb_excess f fd)
    (z_zip : mg "zip" = none)
    (z_sum : mg "sum" = none)
    (z_len : mg "len" = none)
    {f__law_wb_frac : Addr} {d__law_wb_frac : FuncData} {l__law_wb_frac : Nat} (h__law_wb_frac : l__law_wb_frac ≤ k) (G__law_wb_frac : FnOk P w K mg base CX0 l__law_wb_frac f__law_wb_frac d__law_wb_frac ["top", "bottom"] (spOf K Ps (ofF E0 F__law_wb_frac))) (g__law_wb_frac : mg "_law_wb_frac" = some (.ref f__law_wb_frac)) (k__law_wb_frac : PySem.W.keepIn K (.ref f__law_wb_frac) = true) (b__law_wb_frac : Binds K d__law_wb_frac ["top", "bottom"] []) : FnOk P w K mg base CX0 (k + 1) f fd ["draw", "test"] (spOf K Ps (ofF E0 F__law_wb_excess)) :=
  okF (N := N__law_wb_excess) (n := 2) (fs := fs__law_wb_excess) F sc__law_wb_excess rfl fun cdv A outer s H E hr => ⟨_, (have nd := sc__law_wb_excess.nd
    psd_cons (psd_set (i := 2) nd rfl (by first | exact Or.inl rfl | exact Or.inr rfl) (pd_callQ (cr_sumS rfl) opq_sumS (by rfl) z_sum Dl.b_sum (pq_dat (pd_new (pn_lc (own := [("number", 3), ("bit", 4)]) rfl nd (pid_zip (by rfl) z_zip (pda_cons (pw_dat (pd_ix (pq_var (pv 0)) (pd_c pe_int (fun _ _ => .int _)) (fun _ _ => rfl))) (pda_cons (pw_dat (pd_var (pv 1))) (pda_nil)))) (blkOk_by (N := N__law_wb_excess) (sc := defScope s__law_wb_excess) (by decide +kernel)) (fun _ _ _ _ _ => pgd_tup rfl (pgsd_cons (pgd_name (pg_name (i := 3) nd rfl (by first | exact Or.inl rfl | exact Or.inr rfl))) (pgsd_cons (pgd_name (pg_name (i := 4) nd rfl (by first | exact Or.inl rfl | exact Or.inr rfl))) (pgsd_nil)))) (fun _ _ _ _ _ => pts_one (pt_d_cmp (op_eqD hr.units) (op2_eq) (pd_var (pv 4)) (pd_c pe_int (fun _ _ => .int _)) (nomark _))) (fun _ _ _ _ _ => pd_var (pv 3)))))))
    (psd_one (psd_ret (pd_call G__law_wb_frac (hr.mono (by omega)) (by rfl) g__law_wb_frac k__law_wb_frac b__law_wb_frac (pda_cons (pw_dat (pd_op op_sub (op2_I0 fun _ _ _ _ => .int _) (pd_op op_mulE (op2_I fun _ _ _ _ => .int _) (pd_var (pv 2)) (pd_len (by rfl) z_len (pq_var (pv 1)))) (pd_op op_mulE (op2_I fun _ _ _ _ => .int _) (pd_callQ (cr_sumS rfl) opq_sumS (by rfl) z_sum Dl.b_sum (pq_var (pv 1))) (pd_ix (pq_var (pv 0)) (pd_c pe_int (fun _ _ => .int _)) (fun _ _ => rfl))))) (pda_cons (pw_dat (pd_op op_mulE (op2_I fun _ _ _ _ => .int _) (pd_ix (pq_var (pv 0)) (pd_c pe_int (fun _ _ => .int _)) (fun _ _ => rfl)) (pd_len (by rfl) z_len (pq_var (pv 1))))) (pda_nil))))))),
    (les_seq (les_set (le_opQ leq_sum (le_seqE (le_L (le_lc (le_zip (le_cons (le_ix (le_varQ) (le_c)) (le_cons (le_var) (le_nil)))) (le_gTup (le_gsCons (le_gSet) (le_gsCons (le_gSet) (le_gsNil)))) (le_test (le_op (leop_eq) (le_var) (le_c))) (le_var))))))
    (les_ret (le_call (le_cons (le_op (leop_I0) (le_op (leop_I cMul_ok) (le_var) (le_opQ leq_len (le_varQ))) (le_op (leop_I cMul_ok) (le_opQ leq_sum (le_varQ)) (le_ix (le_varQ) (le_c)))) (le_cons (le_op (leop_I cMul_ok) (le_ix (le_varQ) (le_c)) (le_opQ leq_len (le_varQ))) (le_nil))))))⟩
abbrev s__law_wb_begin : Stmt := topS 60
abbrev N__law_wb_begin : List PySem.Str := ["draw", "m", "word", "found", "number", "weight"]
theorem sc__law_wb_begin : FnScope N__law_wb_begin ["draw", "m", "word"] (defScope s__law_wb_begin) := ⟨rfl, rfl, rfl, by decide +kernel, rfl, by decide +kernel, by decide +kernel⟩
def fs__law_wb_begin : FS :=
  fSeq (fSet 3 (fC (.int 0)))
    (fSeq (fFor (fEnum (fCons (fIx (fVarQ 0) (fC (.int 1))) (fNil))) (fgTup 2 (fgsCons (fgSet 4) (fgsCons (fgSet 5) (fgsNil)))) (fIf (fTest (fOp (gEq false) (fSl (fSeqE (fCall F__law_wb_word (fCons (fVar 1) (fCons (fVar 4) (fNil))))) (foNone) (foSome (fOpQ gLen (fVarQ 2)))) (fVar 2))) (fSet 3 (fOp (gI0 fun i j => .int (i + j)) (fVar 3) (fVar 5))) (fNext)))
    (fRet (fVar 3)))
def F__law_wb_begin : FF := mkF 3 N__law_wb_begin.length fs__law_wb_begin
theorem ok__law_wb_begin {f : Addr} {fd : FuncData} {k : Nat} (F : Fun K "_law_wb_begin" "_law_wb_begin" s__law_wb_begin f fd)
    (z_enumerate : mg "enumerate" = none)
    (z_len : mg "len" = none)
    {f__law_wb_word : Addr} {d__law_wb_word : FuncData} {l__law_wb_word : Nat} (h__law_wb_word : l__law_wb_word ≤ k) (G__law_wb_word : FnOk P w K mg base CX0 l__law_wb_word f__law_wb_word d__law_wb_word ["many", "number"] (spOf K Ps (ofF E0 F__law_wb_word))) (g__law_wb_word : mg "_law_wb_word" = some (.ref f__law_wb_word)) (k__law_wb_word : PySem.W.keepIn K (.ref f__law_wb_word) = true) (b__law_wb_word : Binds K d__law_wb_word ["many", "number"] []) : FnOk P w K mg base CX0 (k + 1) f fd ["draw", "m", "word"] (spOf K Ps (ofF E0 F__law_wb_begin)) :=
  okF (N := N__law_wb_begin) (n := 3) (fs := fs__law_wb_begin) F sc__law_wb_begin rfl fun cdv A outer s H E hr => ⟨_, (have nd := sc__law_wb_begin.nd
    psd_cons (psd_set (i := 3) nd rfl (by first | exact Or.inl rfl | exact Or.inr rfl) (pd_c pe_int (fun _ _ => .int _)))
    (psd_cons (psd_for PassesOwn.never rfl (pid_enum (by rfl) z_enumerate (pda_cons (pw_dat (pd_ix (pq_var (pv 0)) (pd_c pe_int (fun _ _ => .int _)) (fun _ _ => rfl))) (pda_nil))) (pgd_tup rfl (pgsd_cons (pgd_name (pg_name (i := 4) nd rfl (by first | exact Or.inl rfl | exact Or.inr rfl))) (pgsd_cons (pgd_name (pg_name (i := 5) nd rfl (by first | exact Or.inl rfl | exact Or.inr rfl))) (pgsd_nil)))) (psd_one (psd_if (pt_d_cmp (op_eqD hr.units) (op2_eq) (pd_slice (pq_dat (pd_call G__law_wb_word (hr.mono (by omega)) (by rfl) g__law_wb_word k__law_wb_word b__law_wb_word (pda_cons (pw_dat (pd_var (pv 1))) (pda_cons (pw_dat (pd_var (pv 4))) (pda_nil))))) (pod_none) (pod_some (pd_len (by rfl) z_len (pq_var (pv 2))))) (pd_var (pv 2)) (nomark _)) (psd_one (psd_set (i := 3) nd rfl (by first | exact Or.inl rfl | exact Or.inr rfl) (pd_op op_add (op2_I0 fun _ _ _ _ => .int _) (pd_var (pv 3)) (pd_var (pv 5))))) (psd_nil))))
    (psd_one (psd_ret (pd_var (pv 3)))))),
    (les_seq (les_set (le_c))
    (les_seq (les_for (le_enum (le_cons (le_ix (le_varQ) (le_c)) (le_nil))) (le_gTup (le_gsCons (le_gSet) (le_gsCons (le_gSet) (le_gsNil)))) (les_if (le_test (le_op (leop_eq) (le_sl (le_seqE (le_call (le_cons (le_var) (le_cons (le_var) (le_nil))))) (le_oNone) (le_oSome (le_opQ leq_len (le_varQ)))) (le_var))) (les_set (le_op (leop_I0) (le_var) (le_var))) (les_next)))
    (les_ret (le_var))))⟩
abbrev s__law_wb_hybrid : Stmt := topS 61
abbrev N__law_wb_hybrid : List PySem.Str := ["draw", "m", "i", "found", "number"]
theorem sc__law_wb_hybrid : FnScope N__law_wb_hybrid ["draw", "m", "i"] (defScope s__law_wb_hybrid) := ⟨rfl, rfl, rfl, by decide +kernel, rfl, by decide +kernel, by decide +kernel⟩
def fs__law_wb_hybrid : FS :=
  fSeq (fSetO 3 (fLst (fNil)))
    (fSeq (fFor (fRange1 (fCons (fOpQ gLen (fSeqE (fIx (fVarQ 0) (fC (.int 1))))) (fNil))) (fgSet 4) (fApp 3 (fCall F__law_wb_begin (fCons (fVar 0) (fCons (fVar 1) (fCons (fSl (fSeqE (fCall F__law_wb_word (fCons (fVar 1) (fCons (fVar 4) (fNil))))) (foNone) (foSome (fVar 2))) (fNil)))))))
    (fRet (fCall F__law_wb_least (fCons (fTup (fCons (fOp (gI cMul fun i j => .int (i * j)) (fIx (fVarQ 0) (fC (.int 0))) (fCall F__law_wb_two (fCons (fOp (gI0 fun i j => .int (i - j)) (fVar 1) (fVar 2)) (fNil)))) (fCons (fOpQ gTuple (fVarQ 3)) (fNil)))) (fNil)))))
def F__law_wb_hybrid : FF := mkF 3 N__law_wb_hybrid.length fs__law_wb_hybrid
theorem ok__law_wb_hybrid {f : Addr} {fd : FuncData} {k : Nat} (F : Fun K "_law_wb_hybrid" "_law_wb_hybrid" s__law_wb_hybrid f fd)
    (z_len : mg "len" = none)
    (z_range : mg "range" = none)
    (z_tuple : mg "tuple" = none)
    {f__law_wb_word : Addr} {d__law_wb_word : FuncData} {l__law_wb_word : Nat} (h__law_wb_word : l__law_wb_word ≤ k) (G__law_wb_word : FnOk P w K mg base CX0 l__law_wb_word f__law_wb_word d__law_wb_word ["many", "number"] (spOf K Ps (ofF E0 F__law_wb_word))) (g__law_wb_word : mg "_law_wb_word" = some (.ref f__law_wb_word)) (k__law_wb_word : PySem.W.keepIn K (.ref f__law_wb_word) = true) (b__law_wb_word : Binds K d__law_wb_word ["many", "number"] [])
    {f__law_wb_begin : Addr} {d__law_wb_begin : FuncData} {l__law_wb_begin : Nat} (h__law_wb_begin : l__law_wb_begin ≤ k) (G__law_wb_begin : FnOk P w K mg base CX0 l__law_wb_begin f__law_wb_begin d__law_wb_begin ["draw", "m", "word"] (spOf K Ps (ofF E0 F__law_wb_begin))) (g__law_wb_begin : mg "_law_wb_begin" = some (.ref f__law_wb_begin)) (k__law_wb_begin : PySem.W.keepIn K (.ref f__law_wb_begin) = true) (b__law_wb_begin : Binds K d__law_wb_begin ["draw", "m", "word"] [])
    {f__law_wb_two : Addr} {d__law_wb_two : FuncData} {l__law_wb_two : Nat} (h__law_wb_two : l__law_wb_two ≤ k) (G__law_wb_two : FnOk P w K mg base CX0 l__law_wb_two f__law_wb_two d__law_wb_two ["many"] (spOf K Ps (ofF E0 F__law_wb_two))) (g__law_wb_two : mg "_law_wb_two" = some (.ref f__law_wb_two)) (k__law_wb_two : PySem.W.keepIn K (.ref f__law_wb_two) = true) (b__law_wb_two : Binds K d__law_wb_two ["many"] [])
    {f__law_wb_least : Addr} {d__law_wb_least : FuncData} {l__law_wb_least : Nat} (h__law_wb_least : l__law_wb_least ≤ k) (G__law_wb_least : FnOk P w K mg base CX0 l__law_wb_least f__law_wb_least d__law_wb_least ["row"] (spOf K Ps (ofF E0 F__law_wb_least))) (g__law_wb_least : mg "_law_wb_least" = some (.ref f__law_wb_least)) (k__law_wb_least : PySem.W.keepIn K (.ref f__law_wb_least) = true) (b__law_wb_least : Binds K d__law_wb_least ["row"] []) : FnOk P w K mg base CX0 (k + 1) f fd ["draw", "m", "i"] (spOf K Ps (ofF E0 F__law_wb_hybrid)) :=
  okF (N := N__law_wb_hybrid) (n := 3) (fs := fs__law_wb_hybrid) F sc__law_wb_hybrid rfl fun cdv A outer s H E hr => ⟨_, (have nd := sc__law_wb_hybrid.nd
    psd_cons (psd_setO (i := 3) nd rfl (by first | exact Or.inl rfl | exact Or.inr rfl) (pn_lst (pda_nil)))
    (psd_cons (psd_for PassesOwn.never rfl (pid_range1 (by rfl) z_range (pda_cons (pw_dat (pd_len (by rfl) z_len (pq_dat (pd_ix (pq_var (pv 0)) (pd_c pe_int (fun _ _ => .int _)) (fun _ _ => rfl))))) (pda_nil))) (pgd_name (pg_name (i := 4) nd rfl (by first | exact Or.inl rfl | exact Or.inr rfl))) (psd_one (psd_app (pv 3) (pd_call G__law_wb_begin (hr.mono (by omega)) (by rfl) g__law_wb_begin k__law_wb_begin b__law_wb_begin (pda_cons (pw_dat (pd_var (pv 0))) (pda_cons (pw_dat (pd_var (pv 1))) (pda_cons (pw_dat (pd_slice (pq_dat (pd_call G__law_wb_word (hr.mono (by omega)) (by rfl) g__law_wb_word k__law_wb_word b__law_wb_word (pda_cons (pw_dat (pd_var (pv 1))) (pda_cons (pw_dat (pd_var (pv 4))) (pda_nil))))) (pod_none) (pod_some (pd_var (pv 2))))) (pda_nil))))))))
    (psd_one (psd_ret (pd_call G__law_wb_least (hr.mono (by omega)) (by rfl) g__law_wb_least k__law_wb_least b__law_wb_least (pda_cons (pw_dat (pd_tup (pda_cons (pw_dat (pd_op op_mulE (op2_I fun _ _ _ _ => .int _) (pd_ix (pq_var (pv 0)) (pd_c pe_int (fun _ _ => .int _)) (fun _ _ => rfl)) (pd_call G__law_wb_two (hr.mono (by omega)) (by rfl) g__law_wb_two k__law_wb_two b__law_wb_two (pda_cons (pw_dat (pd_op op_sub (op2_I0 fun _ _ _ _ => .int _) (pd_var (pv 1)) (pd_var (pv 2)))) (pda_nil))))) (pda_cons (pw_dat (pd_tuple (by rfl) z_tuple Dl.b_tuple (pq_var (pv 3)))) (pda_nil))))) (pda_nil))))))),
    (les_seq (les_setO (le_lst (le_nil)))
    (les_seq (les_for (le_range1 (le_cons (le_opQ leq_len (le_seqE (le_ix (le_varQ) (le_c)))) (le_nil))) (le_gSet) (les_app (le_call (le_cons (le_var) (le_cons (le_var) (le_cons (le_sl (le_seqE (le_call (le_cons (le_var) (le_cons (le_var) (le_nil))))) (le_oNone) (le_oSome (le_var))) (le_nil)))))))
    (les_ret (le_call (le_cons (le_tup (le_cons (le_op (leop_I cMul_ok) (le_ix (le_varQ) (le_c)) (le_call (le_cons (le_op (leop_I0) (le_var) (le_var)) (le_nil)))) (le_cons (le_opQ leq_tuple (le_varQ)) (le_nil)))) (le_nil))))))⟩
abbrev s__law_wb_even : Stmt := topS 62
abbrev N__law_wb_even : List PySem.Str := ["m"]
theorem sc__law_wb_even : FnScope N__law_wb_even ["m"] (defScope s__law_wb_even) := ⟨rfl, rfl, rfl, by decide +kernel, rfl, by decide +kernel, by decide +kernel⟩
def fs__law_wb_even : FS :=
  fRet (fTup (fCons (fCall F__law_wb_two (fCons (fVar 0) (fNil))) (fCons (fOp (gRepA) (fTup (fCons (fC (.int 1)) (fNil))) (fCall F__law_wb_two (fCons (fVar 0) (fNil)))) (fNil))))
def F__law_wb_even : FF := mkF 1 N__law_wb_even.length fs__law_wb_even
theorem ok__law_wb_even {f : Addr} {fd : FuncData} {k : Nat} (F : Fun K "_law_wb_even" "_law_wb_even" s__law_wb_even f fd)
    {f__law_wb_two : Addr} {d__law_wb_two : FuncData} {l__law_wb_two : Nat} (h__law_wb_two : l__law_wb_two ≤ k) (G__law_wb_two : FnOk P w K mg base CX0 l__law_wb_two f__law_wb_two d__law_wb_two ["many"] (spOf K Ps (ofF E0 F__law_wb_two))) (g__law_wb_two : mg "_law_wb_two" = some (.ref f__law_wb_two)) (k__law_wb_two : PySem.W.keepIn K (.ref f__law_wb_two) = true) (b__law_wb_two : Binds K d__law_wb_two ["many"] []) : FnOk P w K mg base CX0 (k + 1) f fd ["m"] (spOf K Ps (ofF E0 F__law_wb_even)) :=
  okF (N := N__law_wb_even) (n := 1) (fs := fs__law_wb_even) F sc__law_wb_even rfl fun cdv A outer s H E hr => ⟨_, (have nd := sc__law_wb_even.nd
    psd_one (psd_ret (pd_tup (pda_cons (pw_dat (pd_call G__law_wb_two (hr.mono (by omega)) (by rfl) g__law_wb_two k__law_wb_two b__law_wb_two (pda_cons (pw_dat (pd_var (pv 0))) (pda_nil)))) (pda_cons (pw_dat (pd_op op_repA (op2_repA) (pd_tup (pda_cons (pw_dat (pd_c pe_int (fun _ _ => .int _))) (pda_nil))) (pd_call G__law_wb_two (hr.mono (by omega)) (by rfl) g__law_wb_two k__law_wb_two b__law_wb_two (pda_cons (pw_dat (pd_var (pv 0))) (pda_nil))))) (pda_nil)))))),
    (les_ret (le_tup (le_cons (le_call (le_cons (le_var) (le_nil))) (le_cons (le_op (leop_repA) (le_tup (le_cons (le_c) (le_nil))) (le_call (le_cons (le_var) (le_nil)))) (le_nil)))))⟩
abbrev s__law_words_right : Stmt := topS 63
abbrev N__law_words_right : List PySem.Str := ["m", "due", "number", "word"]
theorem sc__law_words_right : FnScope N__law_words_right ["m"] (defScope s__law_words_right) := ⟨rfl, rfl, rfl, by decide +kernel, rfl, by decide +kernel, by decide +kernel⟩
def fs__law_words_right : FS :=
  fSeq (fSet 1 (fOpQ gTuple (fSeqE (fL (fLc (fRange1 (fCons (fCall F__law_wb_two (fCons (fVar 0) (fNil))) (fNil))) (fgSet 2) (fYes) (fCall F__law_wb_word (fCons (fVar 0) (fCons (fVar 2) (fNil)))) [2])))))
    (fSeq (fIf (fOr (fTest (fOp (gEq true) (fCall F_words (fCons (fVar 0) (fNil))) (fVar 1))) (fTest (fOp (gEq true) (fCall F_even_draw (fCons (fVar 0) (fNil))) (fCall F__law_wb_even (fCons (fVar 0) (fNil)))))) (fRet (fC (.bool false))) (fNext))
    (fRet (fOp (gEq false) (fL (fLc (fEnum (fCons (fVar 1) (fNil))) (fgTup 2 (fgsCons (fgSet 2) (fgsCons (fgSet 3) (fgsNil)))) (fTest (fOp (gEq true) (fCall F_word_number (fCons (fVar 0) (fCons (fVar 3) (fNil)))) (fVar 2))) (fVar 2) [2, 3])) (fL (fLst (fNil))))))
def F__law_words_right : FF := mkF 1 N__law_words_right.length fs__law_words_right
theorem ok__law_words_right {f : Addr} {fd : FuncData} {k : Nat} (F : Fun K "_law_words_right" "_law_words_right" s__law_words_right f fd)
    (z_range : mg "range" = none)
    (z_tuple : mg "tuple" = none)
    (z_enumerate : mg "enumerate" = none)
    {f__law_wb_two : Addr} {d__law_wb_two : FuncData} {l__law_wb_two : Nat} (h__law_wb_two : l__law_wb_two ≤ k) (G__law_wb_two : FnOk P w K mg base CX0 l__law_wb_two f__law_wb_two d__law_wb_two ["many"] (spOf K Ps (ofF E0 F__law_wb_two))) (g__law_wb_two : mg "_law_wb_two" = some (.ref f__law_wb_two)) (k__law_wb_two : PySem.W.keepIn K (.ref f__law_wb_two) = true) (b__law_wb_two : Binds K d__law_wb_two ["many"] [])
    {f__law_wb_word : Addr} {d__law_wb_word : FuncData} {l__law_wb_word : Nat} (h__law_wb_word : l__law_wb_word ≤ k) (G__law_wb_word : FnOk P w K mg base CX0 l__law_wb_word f__law_wb_word d__law_wb_word ["many", "number"] (spOf K Ps (ofF E0 F__law_wb_word))) (g__law_wb_word : mg "_law_wb_word" = some (.ref f__law_wb_word)) (k__law_wb_word : PySem.W.keepIn K (.ref f__law_wb_word) = true) (b__law_wb_word : Binds K d__law_wb_word ["many", "number"] [])
    {f_words : Addr} {d_words : FuncData} {l_words : Nat} (h_words : l_words ≤ k) (G_words : FnOk P w K mg base CX0 l_words f_words d_words ["m"] (spOf K Ps (ofF E0 F_words))) (g_words : mg "words" = some (.ref f_words)) (k_words : PySem.W.keepIn K (.ref f_words) = true) (b_words : Binds K d_words ["m"] [])
    {f_even_draw : Addr} {d_even_draw : FuncData} {l_even_draw : Nat} (h_even_draw : l_even_draw ≤ k) (G_even_draw : FnOk P w K mg base CX0 l_even_draw f_even_draw d_even_draw ["m"] (spOf K Ps (ofF E0 F_even_draw))) (g_even_draw : mg "even_draw" = some (.ref f_even_draw)) (k_even_draw : PySem.W.keepIn K (.ref f_even_draw) = true) (b_even_draw : Binds K d_even_draw ["m"] [])
    {f__law_wb_even : Addr} {d__law_wb_even : FuncData} {l__law_wb_even : Nat} (h__law_wb_even : l__law_wb_even ≤ k) (G__law_wb_even : FnOk P w K mg base CX0 l__law_wb_even f__law_wb_even d__law_wb_even ["m"] (spOf K Ps (ofF E0 F__law_wb_even))) (g__law_wb_even : mg "_law_wb_even" = some (.ref f__law_wb_even)) (k__law_wb_even : PySem.W.keepIn K (.ref f__law_wb_even) = true) (b__law_wb_even : Binds K d__law_wb_even ["m"] [])
    {f_word_number : Addr} {d_word_number : FuncData} {l_word_number : Nat} (h_word_number : l_word_number ≤ k) (G_word_number : FnOk P w K mg base CX0 l_word_number f_word_number d_word_number ["m", "word"] (spOf K Ps (ofF E0 F_word_number))) (g_word_number : mg "word_number" = some (.ref f_word_number)) (k_word_number : PySem.W.keepIn K (.ref f_word_number) = true) (b_word_number : Binds K d_word_number ["m", "word"] []) : FnOk P w K mg base CX0 (k + 1) f fd ["m"] (spOf K Ps (ofF E0 F__law_words_right)) :=
  okF (N := N__law_words_right) (n := 1) (fs := fs__law_words_right) F sc__law_words_right rfl fun cdv A outer s H E hr => ⟨_, (have nd := sc__law_words_right.nd
    psd_cons (psd_set (i := 1) nd rfl (by first | exact Or.inl rfl | exact Or.inr rfl) (pd_tuple (by rfl) z_tuple Dl.b_tuple (pq_dat (pd_new (pn_lc (own := [("number", 2)]) rfl nd (pid_range1 (by rfl) z_range (pda_cons (pw_dat (pd_call G__law_wb_two (hr.mono (by omega)) (by rfl) g__law_wb_two k__law_wb_two b__law_wb_two (pda_cons (pw_dat (pd_var (pv 0))) (pda_nil)))) (pda_nil))) (blkOk_by (N := N__law_words_right) (sc := defScope s__law_words_right) (by decide +kernel)) (fun _ _ _ _ _ => pgd_name (pg_name (i := 2) nd rfl (by first | exact Or.inl rfl | exact Or.inr rfl))) (fun _ _ _ _ _ => ptsd_nil) (fun _ _ _ _ _ => pd_call G__law_wb_word (hr.mono (by omega)) (by rfl) g__law_wb_word k__law_wb_word b__law_wb_word (pda_cons (pw_dat (pd_var (pv 0))) (pda_cons (pw_dat (pd_var (pv 2))) (pda_nil)))))))))
    (psd_cons (psd_if (PW.pt (pwd_or (pt_d_cmp (op_neD hr.units) (op2_ne) (pd_call G_words (hr.mono (by omega)) (by rfl) g_words k_words b_words (pda_cons (pw_dat (pd_var (pv 0))) (pda_nil))) (pd_var (pv 1)) (nomark _)) (pwd_or1 (pt_d_cmp (op_neD hr.units) (op2_ne) (pd_call G_even_draw (hr.mono (by omega)) (by rfl) g_even_draw k_even_draw b_even_draw (pda_cons (pw_dat (pd_var (pv 0))) (pda_nil))) (pd_call G__law_wb_even (hr.mono (by omega)) (by rfl) g__law_wb_even k__law_wb_even b__law_wb_even (pda_cons (pw_dat (pd_var (pv 0))) (pda_nil))) (nomark _))))) (psd_one (psd_ret (pd_c pe_bl (fun _ _ => .bl _)))) (psd_nil))
    (psd_one (psd_ret (pd_cmp (op_eqD hr.units) (op2_eq) (pd_new (pn_lc (own := [("number", 2), ("word", 3)]) rfl nd (pid_enum (by rfl) z_enumerate (pda_cons (pw_dat (pd_var (pv 1))) (pda_nil))) (blkOk_by (N := N__law_words_right) (sc := defScope s__law_words_right) (by decide +kernel)) (fun _ _ _ _ _ => pgd_tup rfl (pgsd_cons (pgd_name (pg_name (i := 2) nd rfl (by first | exact Or.inl rfl | exact Or.inr rfl))) (pgsd_cons (pgd_name (pg_name (i := 3) nd rfl (by first | exact Or.inl rfl | exact Or.inr rfl))) (pgsd_nil)))) (fun _ _ _ _ _ => pts_one (pt_d_cmp (op_neD hr.units) (op2_ne) (pd_call G_word_number (hr.mono (by omega)) (by rfl) g_word_number k_word_number b_word_number (pda_cons (pw_dat (pd_var (pv 0))) (pda_cons (pw_dat (pd_var (pv 3))) (pda_nil)))) (pd_var (pv 2)) (nomark _))) (fun _ _ _ _ _ => pd_var (pv 2)))) (pd_new (pn_lst (pda_nil))) (nomark _)))))),
    (les_seq (les_set (le_opQ leq_tuple (le_seqE (le_L (le_lc (le_range1 (le_cons (le_call (le_cons (le_var) (le_nil))) (le_nil))) (le_gSet) (le_yes) (le_call (le_cons (le_var) (le_cons (le_var) (le_nil)))))))))
    (les_seq (les_if (le_orT (le_test (le_op (leop_eq) (le_call (le_cons (le_var) (le_nil))) (le_var))) (le_test (le_op (leop_eq) (le_call (le_cons (le_var) (le_nil))) (le_call (le_cons (le_var) (le_nil)))))) (les_ret (le_c)) (les_next))
    (les_ret (le_op (leop_eq) (le_L (le_lc (le_enum (le_cons (le_var) (le_nil))) (le_gTup (le_gsCons (le_gSet) (le_gsCons (le_gSet) (le_gsNil)))) (le_test (le_op (leop_eq) (le_call (le_cons (le_var) (le_cons (le_var) (le_nil)))) (le_var))) (le_var))) (le_L (le_lst (le_nil)))))))⟩
abbrev s__law_right : Stmt := topS 64
abbrev N__law_right : List PySem.Str := ["hat", "m", "counts", "hybrids", "chances", "due", "total", "step", "draw", "test", "i", "one", "number"]
theorem sc__law_right : FnScope N__law_right ["hat"] (defScope s__law_right) := ⟨rfl, rfl, rfl, by decide +kernel, rfl, by decide +kernel, by decide +kernel⟩
def dt__law_right : DS :=
  dSeq (dSet 2 (dOpQ fTuple (dSeqE (dL (dLc (dItS (dIx (dVarQ 8) (dC (.int 1)))) (gSet 12) (dYes) (dOp (fI (fun _ j => 0 < j) fun i j => .int (i % j)) (dVar 12) (dC (.int 999999937))) [12])))))
    (dSeq (dIf (dAnd (dTest (dOp (fI0 fun i j => .bool (decide (j < i))) (dOpQ fSumS (dVarQ 2)) (dC (.int 0)))) (dTest (dOp (fEq true) (dCall (ofF E0 F_draw_of) (dCons (dD (dVar 1)) (dCons (dD (dVar 2)) (dNil)))) (dCall (ofF E0 F__law_wb_least) (dCons (dD (dTup (dCons (dD (dOpQ fSumS (dVarQ 2))) (dCons (dD (dVar 2)) (dNil))))) (dNil)))))) (dRet (dC (.bool false))) (dNext))
    (dSeq (dIf (dTest (dOp (fEq true) (dCall (ofF E0 F_excess) (dCons (dD (dVar 1)) (dCons (dD (dVar 8)) (dCons (dD (dVar 9)) (dNil))))) (dCall (ofF E0 F__law_wb_excess) (dCons (dD (dVar 8)) (dCons (dD (dVar 9)) (dNil)))))) (dRet (dC (.bool false))) (dNext))
    (dSeq (dSet 3 (dL (dLc (dRange1 (dCons (dD (dOp (fI0 fun i j => .int (i + j)) (dVar 1) (dC (.int 1)))) (dNil))) (gSet 10) (dYes) (dCall (ofF E0 F__law_wb_hybrid) (dCons (dD (dVar 8)) (dCons (dD (dVar 1)) (dCons (dD (dVar 10)) (dNil))))) [10])))
    (dSeq (dIf (dOr (dTest (dOp (fEq true) (dL (dLc (dRange1 (dCons (dD (dOp (fI0 fun i j => .int (i + j)) (dVar 1) (dC (.int 1)))) (dNil))) (gSet 10) (dYes) (dCall (ofF E0 F_hybrid) (dCons (dD (dVar 1)) (dCons (dD (dVar 8)) (dCons (dD (dVar 10)) (dNil))))) [10])) (dVar 3))) (dTest (dOp (fEq true) (dIx (dVarQ 3) (dVar 1)) (dCall (ofF E0 F__law_wb_least) (dCons (dD (dVar 8)) (dNil)))))) (dRet (dC (.bool false))) (dNext))
    (dSeq (dSet 4 (dL (dLc (dItS (dVar 3)) (gSet 11) (dYes) (dCall (ofF E0 F__law_wb_excess) (dCons (dD (dVar 11)) (dCons (dD (dVar 9)) (dNil)))) [11])))
    (dSeq (dSet 5 (dOpQ fTuple (dSeqE (dL (dLc (dRange1 (dCons (dD (dVar 1)) (dNil))) (gSet 10) (dYes) (dCall (ofF E0 F__law_wb_less) (dCons (dD (dIx (dVarQ 4) (dOp (fI0 fun i j => .int (i + j)) (dVar 10) (dC (.int 1))))) (dCons (dD (dIx (dVarQ 4) (dVar 10))) (dNil)))) [10])))))
    (dSeq (dSet 6 (dTup (dCons (dD (dC (.int 0))) (dCons (dD (dC (.int 1))) (dNil)))))
    (dSeq (dFor (dItS (dVar 5)) (gSet 7) (dSet 6 (dCall (ofF E0 F__law_wb_plus) (dCons (dD (dVar 6)) (dCons (dD (dVar 7)) (dNil))))))
    (dRet (dAndV (dOp (fEq false) (dCall (ofF E0 F_steps) (dCons (dD (dVar 1)) (dCons (dD (dVar 8)) (dCons (dD (dVar 9)) (dNil))))) (dVar 5)) (dOp (fEq false) (dVar 6) (dCall (ofF E0 F__law_wb_excess) (dCons (dD (dVar 8)) (dCons (dD (dVar 9)) (dNil)))))))))))))))
def ft__law_right : FS :=
  fSeq (fSet 2 (fOpQ gTuple (fSeqE (fL (fLc (fItS (fIx (fVarQ 8) (fC (.int 1)))) (fgSet 12) (fYes) (fOp (gI cPos fun i j => .int (i % j)) (fVar 12) (fC (.int 999999937))) [12])))))
    (fSeq (fIf (fAnd (fTest (fOp (gI0 fun i j => .bool (decide (j < i))) (fOpQ gSum (fVarQ 2)) (fC (.int 0)))) (fTest (fOp (gEq true) (fCall F_draw_of (fCons (fVar 1) (fCons (fVar 2) (fNil)))) (fCall F__law_wb_least (fCons (fTup (fCons (fOpQ gSum (fVarQ 2)) (fCons (fVar 2) (fNil)))) (fNil)))))) (fRet (fC (.bool false))) (fNext))
    (fSeq (fIf (fTest (fOp (gEq true) (fCall F_excess (fCons (fVar 1) (fCons (fVar 8) (fCons (fVar 9) (fNil))))) (fCall F__law_wb_excess (fCons (fVar 8) (fCons (fVar 9) (fNil)))))) (fRet (fC (.bool false))) (fNext))
    (fSeq (fSet 3 (fL (fLc (fRange1 (fCons (fOp (gI0 fun i j => .int (i + j)) (fVar 1) (fC (.int 1))) (fNil))) (fgSet 10) (fYes) (fCall F__law_wb_hybrid (fCons (fVar 8) (fCons (fVar 1) (fCons (fVar 10) (fNil))))) [10])))
    (fSeq (fIf (fOr (fTest (fOp (gEq true) (fL (fLc (fRange1 (fCons (fOp (gI0 fun i j => .int (i + j)) (fVar 1) (fC (.int 1))) (fNil))) (fgSet 10) (fYes) (fCall F_hybrid (fCons (fVar 1) (fCons (fVar 8) (fCons (fVar 10) (fNil))))) [10])) (fVar 3))) (fTest (fOp (gEq true) (fIx (fVarQ 3) (fVar 1)) (fCall F__law_wb_least (fCons (fVar 8) (fNil)))))) (fRet (fC (.bool false))) (fNext))
    (fSeq (fSet 4 (fL (fLc (fItS (fVar 3)) (fgSet 11) (fYes) (fCall F__law_wb_excess (fCons (fVar 11) (fCons (fVar 9) (fNil)))) [11])))
    (fSeq (fSet 5 (fOpQ gTuple (fSeqE (fL (fLc (fRange1 (fCons (fVar 1) (fNil))) (fgSet 10) (fYes) (fCall F__law_wb_less (fCons (fIx (fVarQ 4) (fOp (gI0 fun i j => .int (i + j)) (fVar 10) (fC (.int 1)))) (fCons (fIx (fVarQ 4) (fVar 10)) (fNil)))) [10])))))
    (fSeq (fSet 6 (fTup (fCons (fC (.int 0)) (fCons (fC (.int 1)) (fNil)))))
    (fSeq (fFor (fItS (fVar 5)) (fgSet 7) (fSet 6 (fCall F__law_wb_plus (fCons (fVar 6) (fCons (fVar 7) (fNil))))))
    (fRet (fAndV (fOp (gEq false) (fCall F_steps (fCons (fVar 1) (fCons (fVar 8) (fCons (fVar 9) (fNil))))) (fVar 5)) (fOp (gEq false) (fVar 6) (fCall F__law_wb_excess (fCons (fVar 8) (fCons (fVar 9) (fNil)))))))))))))))
theorem lt__law_right : LeS (ofS E0 ft__law_right) dt__law_right := les_seq (les_set (le_opQ leq_tuple (le_seqE (le_L (le_lc (le_itS (le_ix (le_varQ) (le_c))) (le_gSet) (le_yes) (le_op (leop_I cPos_ok) (le_var) (le_c)))))))
    (les_seq (les_if (le_andT (le_test (le_op (leop_I0) (le_opQ leq_sum (le_varQ)) (le_c))) (le_test (le_op (leop_eq) (le_call (le_cons (le_var) (le_cons (le_var) (le_nil)))) (le_call (le_cons (le_tup (le_cons (le_opQ leq_sum (le_varQ)) (le_cons (le_var) (le_nil)))) (le_nil)))))) (les_ret (le_c)) (les_next))
    (les_seq (les_if (le_test (le_op (leop_eq) (le_call (le_cons (le_var) (le_cons (le_var) (le_cons (le_var) (le_nil))))) (le_call (le_cons (le_var) (le_cons (le_var) (le_nil)))))) (les_ret (le_c)) (les_next))
    (les_seq (les_set (le_L (le_lc (le_range1 (le_cons (le_op (leop_I0) (le_var) (le_c)) (le_nil))) (le_gSet) (le_yes) (le_call (le_cons (le_var) (le_cons (le_var) (le_cons (le_var) (le_nil))))))))
    (les_seq (les_if (le_orT (le_test (le_op (leop_eq) (le_L (le_lc (le_range1 (le_cons (le_op (leop_I0) (le_var) (le_c)) (le_nil))) (le_gSet) (le_yes) (le_call (le_cons (le_var) (le_cons (le_var) (le_cons (le_var) (le_nil))))))) (le_var))) (le_test (le_op (leop_eq) (le_ix (le_varQ) (le_var)) (le_call (le_cons (le_var) (le_nil)))))) (les_ret (le_c)) (les_next))
    (les_seq (les_set (le_L (le_lc (le_itS (le_var)) (le_gSet) (le_yes) (le_call (le_cons (le_var) (le_cons (le_var) (le_nil)))))))
    (les_seq (les_set (le_opQ leq_tuple (le_seqE (le_L (le_lc (le_range1 (le_cons (le_var) (le_nil))) (le_gSet) (le_yes) (le_call (le_cons (le_ix (le_varQ) (le_op (leop_I0) (le_var) (le_c))) (le_cons (le_ix (le_varQ) (le_var)) (le_nil)))))))))
    (les_seq (les_set (le_tup (le_cons (le_c) (le_cons (le_c) (le_nil)))))
    (les_seq (les_for (le_itS (le_var)) (le_gSet) (les_set (le_call (le_cons (le_var) (le_cons (le_var) (le_nil))))))
    (les_ret (le_andV (le_op (leop_eq) (le_call (le_cons (le_var) (le_cons (le_var) (le_cons (le_var) (le_nil))))) (le_var)) (le_op (leop_eq) (le_var) (le_call (le_cons (le_var) (le_cons (le_var) (le_nil)))))))))))))))
def db__law_right (SD__law_wb_of SD__law_wb_bits SD__law_wb_draw : DSp) : DS :=
  dSeq (dSet 1 (dCall SD__law_wb_of (dCons (dHat 0) (dCons (dD (dL (dLst (dCons (dD (dC (.int 1))) (dCons (dD (dC (.int 2))) (dCons (dD (dC (.int 3))) (dCons (dD (dC (.int 3))) (dCons (dD (dC (.int 4))) (dNil))))))))) (dNil)))))
    (dSeq (dAsgG (gTupD 2 (gsCons (gSet 8) (gsCons (gSet 9) (gsNil)))) (dTup (dCons (dD (dCall SD__law_wb_draw (dCons (dHat 0) (dCons (dD (dCall (ofF E0 F__law_wb_two) (dCons (dD (dVar 1)) (dNil)))) (dNil))))) (dCons (dD (dCall SD__law_wb_bits (dCons (dHat 0) (dCons (dD (dCall (ofF E0 F__law_wb_two) (dCons (dD (dVar 1)) (dNil)))) (dNil))))) (dNil)))))
    (dt__law_right))
theorem ok__law_right {f : Addr} {fd : FuncData} {k : Nat} {SD : DSp} (F : Fun K "_law_right" "_law_right" s__law_right f fd) (len : ∀ ws Q, SD ws Q → ws.length = 1)
    (z_tuple : mg "tuple" = none)
    (z_sum : mg "sum" = none)
    (z_range : mg "range" = none)
    {f__law_wb_of : Addr} {d__law_wb_of : FuncData} {l__law_wb_of : Nat} {SD__law_wb_of : DSp} (h__law_wb_of : l__law_wb_of ≤ k) (G__law_wb_of : FnOk P w K mg base CX0 l__law_wb_of f__law_wb_of d__law_wb_of ["hat", "items"] (spOf K Ps SD__law_wb_of)) (g__law_wb_of : mg "_law_wb_of" = some (.ref f__law_wb_of)) (k__law_wb_of : PySem.W.keepIn K (.ref f__law_wb_of) = true) (b__law_wb_of : Binds K d__law_wb_of ["hat", "items"] [])
    {f__law_wb_two : Addr} {d__law_wb_two : FuncData} {l__law_wb_two : Nat} (h__law_wb_two : l__law_wb_two ≤ k) (G__law_wb_two : FnOk P w K mg base CX0 l__law_wb_two f__law_wb_two d__law_wb_two ["many"] (spOf K Ps (ofF E0 F__law_wb_two))) (g__law_wb_two : mg "_law_wb_two" = some (.ref f__law_wb_two)) (k__law_wb_two : PySem.W.keepIn K (.ref f__law_wb_two) = true) (b__law_wb_two : Binds K d__law_wb_two ["many"] [])
    {f__law_wb_bits : Addr} {d__law_wb_bits : FuncData} {l__law_wb_bits : Nat} {SD__law_wb_bits : DSp} (h__law_wb_bits : l__law_wb_bits ≤ k) (G__law_wb_bits : FnOk P w K mg base CX0 l__law_wb_bits f__law_wb_bits d__law_wb_bits ["hat", "many"] (spOf K Ps SD__law_wb_bits)) (g__law_wb_bits : mg "_law_wb_bits" = some (.ref f__law_wb_bits)) (k__law_wb_bits : PySem.W.keepIn K (.ref f__law_wb_bits) = true) (b__law_wb_bits : Binds K d__law_wb_bits ["hat", "many"] [])
    {f__law_wb_draw : Addr} {d__law_wb_draw : FuncData} {l__law_wb_draw : Nat} {SD__law_wb_draw : DSp} (h__law_wb_draw : l__law_wb_draw ≤ k) (G__law_wb_draw : FnOk P w K mg base CX0 l__law_wb_draw f__law_wb_draw d__law_wb_draw ["hat", "many"] (spOf K Ps SD__law_wb_draw)) (g__law_wb_draw : mg "_law_wb_draw" = some (.ref f__law_wb_draw)) (k__law_wb_draw : PySem.W.keepIn K (.ref f__law_wb_draw) = true) (b__law_wb_draw : Binds K d__law_wb_draw ["hat", "many"] [])
    {f_draw_of : Addr} {d_draw_of : FuncData} {l_draw_of : Nat} (h_draw_of : l_draw_of ≤ k) (G_draw_of : FnOk P w K mg base CX0 l_draw_of f_draw_of d_draw_of ["m", "counts"] (spOf K Ps (ofF E0 F_draw_of))) (g_draw_of : mg "draw_of" = some (.ref f_draw_of)) (k_draw_of : PySem.W.keepIn K (.ref f_draw_of) = true) (b_draw_of : Binds K d_draw_of ["m", "counts"] [])
    {f__law_wb_least : Addr} {d__law_wb_least : FuncData} {l__law_wb_least : Nat} (h__law_wb_least : l__law_wb_least ≤ k) (G__law_wb_least : FnOk P w K mg base CX0 l__law_wb_least f__law_wb_least d__law_wb_least ["row"] (spOf K Ps (ofF E0 F__law_wb_least))) (g__law_wb_least : mg "_law_wb_least" = some (.ref f__law_wb_least)) (k__law_wb_least : PySem.W.keepIn K (.ref f__law_wb_least) = true) (b__law_wb_least : Binds K d__law_wb_least ["row"] [])
    {f_excess : Addr} {d_excess : FuncData} {l_excess : Nat} (h_excess : l_excess ≤ k) (G_excess : FnOk P w K mg base CX0 l_excess f_excess d_excess ["m", "draw", "test"] (spOf K Ps (ofF E0 F_excess))) (g_excess : mg "excess" = some (.ref f_excess)) (k_excess : PySem.W.keepIn K (.ref f_excess) = true) (b_excess : Binds K d_excess ["m", "draw", "test"] [])
    {f__law_wb_excess : Addr} {d__law_wb_excess : FuncData} {l__law_wb_excess : Nat} (h__law_wb_excess : l__law_wb_excess ≤ k) (G__law_wb_excess : FnOk P w K mg base CX0 l__law_wb_excess f__law_wb_excess d__law_wb_excess ["draw", "test"] (spOf K Ps (ofF E0 F__law_wb_excess))) (g__law_wb_excess : mg "_law_wb_excess" = some (.ref f__law_wb_excess)) (k__law_wb_excess : PySem.W.keepIn K (.ref f__law_wb_excess) = true) (b__law_wb_excess : Binds K d__law_wb_excess ["draw", "test"] [])
    {f__law_wb_hybrid : Addr} {d__law_wb_hybrid : FuncData} {l__law_wb_hybrid : Nat} (h__law_wb_hybrid : l__law_wb_hybrid ≤ k) (G__law_wb_hybrid : FnOk P w K mg base CX0 l__law_wb_hybrid f__law_wb_hybrid d__law_wb_hybrid ["draw", "m", "i"] (spOf K Ps (ofF E0 F__law_wb_hybrid))) (g__law_wb_hybrid : mg "_law_wb_hybrid" = some (.ref f__law_wb_hybrid)) (k__law_wb_hybrid : PySem.W.keepIn K (.ref f__law_wb_hybrid) = true) (b__law_wb_hybrid : Binds K d__law_wb_hybrid ["draw", "m", "i"] [])
    {f_hybrid : Addr} {d_hybrid : FuncData} {l_hybrid : Nat} (h_hybrid : l_hybrid ≤ k) (G_hybrid : FnOk P w K mg base CX0 l_hybrid f_hybrid d_hybrid ["m", "draw", "number"] (spOf K Ps (ofF E0 F_hybrid))) (g_hybrid : mg "hybrid" = some (.ref f_hybrid)) (k_hybrid : PySem.W.keepIn K (.ref f_hybrid) = true) (b_hybrid : Binds K d_hybrid ["m", "draw", "number"] [])
    {f__law_wb_less : Addr} {d__law_wb_less : FuncData} {l__law_wb_less : Nat} (h__law_wb_less : l__law_wb_less ≤ k) (G__law_wb_less : FnOk P w K mg base CX0 l__law_wb_less f__law_wb_less d__law_wb_less ["one", "other"] (spOf K Ps (ofF E0 F__law_wb_less))) (g__law_wb_less : mg "_law_wb_less" = some (.ref f__law_wb_less)) (k__law_wb_less : PySem.W.keepIn K (.ref f__law_wb_less) = true) (b__law_wb_less : Binds K d__law_wb_less ["one", "other"] [])
    {f__law_wb_plus : Addr} {d__law_wb_plus : FuncData} {l__law_wb_plus : Nat} (h__law_wb_plus : l__law_wb_plus ≤ k) (G__law_wb_plus : FnOk P w K mg base CX0 l__law_wb_plus f__law_wb_plus d__law_wb_plus ["one", "other"] (spOf K Ps (ofF E0 F__law_wb_plus))) (g__law_wb_plus : mg "_law_wb_plus" = some (.ref f__law_wb_plus)) (k__law_wb_plus : PySem.W.keepIn K (.ref f__law_wb_plus) = true) (b__law_wb_plus : Binds K d__law_wb_plus ["one", "other"] [])
    {f_steps : Addr} {d_steps : FuncData} {l_steps : Nat} (h_steps : l_steps ≤ k) (G_steps : FnOk P w K mg base CX0 l_steps f_steps d_steps ["m", "draw", "test"] (spOf K Ps (ofF E0 F_steps))) (g_steps : mg "steps" = some (.ref f_steps)) (k_steps : PySem.W.keepIn K (.ref f_steps) = true) (b_steps : Binds K d_steps ["m", "draw", "test"] [])
    (pu : ∀ ws Qd, SD ws Qd → db__law_right SD__law_wb_of SD__law_wb_bits SD__law_wb_draw { nx := fun _ => Qd .none, rt := Qd } (startD N__law_right.length ws)) : FnOk P w K mg base CX0 (k + 1) f fd ["hat"] (spOf K Ps SD) :=
  okD F sc__law_right len fun cdv A outer s H E hr => ⟨_, (have nd := sc__law_right.nd
    psd_cons (psd_set (i := 1) nd rfl (by first | exact Or.inl rfl | exact Or.inr rfl) (pd_call G__law_wb_of (hr.mono (by omega)) (by rfl) g__law_wb_of k__law_wb_of b__law_wb_of (pda_cons (pw_hat (pv 0)) (pda_cons (pw_dat (pd_new (pn_lst (pda_cons (pw_dat (pd_c pe_int (fun _ _ => .int _))) (pda_cons (pw_dat (pd_c pe_int (fun _ _ => .int _))) (pda_cons (pw_dat (pd_c pe_int (fun _ _ => .int _))) (pda_cons (pw_dat (pd_c pe_int (fun _ _ => .int _))) (pda_cons (pw_dat (pd_c pe_int (fun _ _ => .int _))) (pda_nil))))))))) (pda_nil)))))
    (psd_cons (psd_asgG (pd_tup (pda_cons (pw_dat (pd_call G__law_wb_draw (hr.mono (by omega)) (by rfl) g__law_wb_draw k__law_wb_draw b__law_wb_draw (pda_cons (pw_hat (pv 0)) (pda_cons (pw_dat (pd_call G__law_wb_two (hr.mono (by omega)) (by rfl) g__law_wb_two k__law_wb_two b__law_wb_two (pda_cons (pw_dat (pd_var (pv 1))) (pda_nil)))) (pda_nil))))) (pda_cons (pw_dat (pd_call G__law_wb_bits (hr.mono (by omega)) (by rfl) g__law_wb_bits k__law_wb_bits b__law_wb_bits (pda_cons (pw_hat (pv 0)) (pda_cons (pw_dat (pd_call G__law_wb_two (hr.mono (by omega)) (by rfl) g__law_wb_two k__law_wb_two b__law_wb_two (pda_cons (pw_dat (pd_var (pv 1))) (pda_nil)))) (pda_nil))))) (pda_nil)))) (pgd_tup rfl (pgsd_cons (pgd_name (pg_name (i := 8) nd rfl (by first | exact Or.inl rfl | exact Or.inr rfl))) (pgsd_cons (pgd_name (pg_name (i := 9) nd rfl (by first | exact Or.inl rfl | exact Or.inr rfl))) (pgsd_nil)))))
    (psd_cons (psd_set (i := 2) nd rfl (by first | exact Or.inl rfl | exact Or.inr rfl) (pd_tuple (by rfl) z_tuple Dl.b_tuple (pq_dat (pd_new (pn_lc (own := [("number", 12)]) rfl nd (pid_seq (pd_ix (pq_var (pv 8)) (pd_c pe_int (fun _ _ => .int _)) (fun _ _ => rfl))) (blkOk_by (N := N__law_right) (sc := defScope s__law_right) (by decide +kernel)) (fun _ _ _ _ _ => pgd_name (pg_name (i := 12) nd rfl (by first | exact Or.inl rfl | exact Or.inr rfl))) (fun _ _ _ _ _ => ptsd_nil) (fun _ _ _ _ _ => pd_op op_mod (op2_I fun _ _ _ _ => .int _) (pd_var (pv 12)) (pd_c pe_int (fun _ _ => .int _))))))))
    (psd_cons (psd_if (PW.pt (pwd_and (pt_d_cmp op_gt (op2_I0 fun _ _ _ _ => .bl _) (pd_callQ (cr_sumS rfl) opq_sumS (by rfl) z_sum Dl.b_sum (pq_var (pv 2))) (pd_c pe_int (fun _ _ => .int _)) (nomark _)) (pwd_and1 (pt_d_cmp (op_neD hr.units) (op2_ne) (pd_call G_draw_of (hr.mono (by omega)) (by rfl) g_draw_of k_draw_of b_draw_of (pda_cons (pw_dat (pd_var (pv 1))) (pda_cons (pw_dat (pd_var (pv 2))) (pda_nil)))) (pd_call G__law_wb_least (hr.mono (by omega)) (by rfl) g__law_wb_least k__law_wb_least b__law_wb_least (pda_cons (pw_dat (pd_tup (pda_cons (pw_dat (pd_callQ (cr_sumS rfl) opq_sumS (by rfl) z_sum Dl.b_sum (pq_var (pv 2)))) (pda_cons (pw_dat (pd_var (pv 2))) (pda_nil))))) (pda_nil))) (nomark _))))) (psd_one (psd_ret (pd_c pe_bl (fun _ _ => .bl _)))) (psd_nil))
    (psd_cons (psd_if (pt_d_cmp (op_neD hr.units) (op2_ne) (pd_call G_excess (hr.mono (by omega)) (by rfl) g_excess k_excess b_excess (pda_cons (pw_dat (pd_var (pv 1))) (pda_cons (pw_dat (pd_var (pv 8))) (pda_cons (pw_dat (pd_var (pv 9))) (pda_nil))))) (pd_call G__law_wb_excess (hr.mono (by omega)) (by rfl) g__law_wb_excess k__law_wb_excess b__law_wb_excess (pda_cons (pw_dat (pd_var (pv 8))) (pda_cons (pw_dat (pd_var (pv 9))) (pda_nil)))) (nomark _)) (psd_one (psd_ret (pd_c pe_bl (fun _ _ => .bl _)))) (psd_nil))
    (psd_cons (psd_setLc (i := 3) (own := [("i", 10)]) rfl nd rfl rfl (sw_true rfl rfl rfl (by decide +kernel)) (pid_range1 (by rfl) z_range (pda_cons (pw_dat (pd_op op_add (op2_I0 fun _ _ _ _ => .int _) (pd_var (pv 1)) (pd_c pe_int (fun _ _ => .int _)))) (pda_nil))) (blkOk_by (N := N__law_right) (sc := defScope s__law_right) (by decide +kernel)) (fun _ _ _ _ _ => pgd_name (pg_name (i := 10) nd rfl (by first | exact Or.inl rfl | exact Or.inr rfl))) (fun _ _ _ _ _ => ptsd_nil) (fun _ _ _ _ _ => pd_call G__law_wb_hybrid (hr.mono (by omega)) (by rfl) g__law_wb_hybrid k__law_wb_hybrid b__law_wb_hybrid (pda_cons (pw_dat (pd_var (pv 8))) (pda_cons (pw_dat (pd_var (pv 1))) (pda_cons (pw_dat (pd_var (pv 10))) (pda_nil))))))
    (psd_cons (psd_if (PW.pt (pwd_or (pt_d_cmp (op_neD hr.units) (op2_ne) (pd_new (pn_lc (own := [("i", 10)]) rfl nd (pid_range1 (by rfl) z_range (pda_cons (pw_dat (pd_op op_add (op2_I0 fun _ _ _ _ => .int _) (pd_var (pv 1)) (pd_c pe_int (fun _ _ => .int _)))) (pda_nil))) (blkOk_by (N := N__law_right) (sc := defScope s__law_right) (by decide +kernel)) (fun _ _ _ _ _ => pgd_name (pg_name (i := 10) nd rfl (by first | exact Or.inl rfl | exact Or.inr rfl))) (fun _ _ _ _ _ => ptsd_nil) (fun _ _ _ _ _ => pd_call G_hybrid (hr.mono (by omega)) (by rfl) g_hybrid k_hybrid b_hybrid (pda_cons (pw_dat (pd_var (pv 1))) (pda_cons (pw_dat (pd_var (pv 8))) (pda_cons (pw_dat (pd_var (pv 10))) (pda_nil))))))) (pd_var (pv 3)) (nomark _)) (pwd_or1 (pt_d_cmp (op_neD hr.units) (op2_ne) (pd_ix (pq_var (pv 3)) (pd_var (pv 1)) (fun _ _ => rfl)) (pd_call G__law_wb_least (hr.mono (by omega)) (by rfl) g__law_wb_least k__law_wb_least b__law_wb_least (pda_cons (pw_dat (pd_var (pv 8))) (pda_nil))) (nomark _))))) (psd_one (psd_ret (pd_c pe_bl (fun _ _ => .bl _)))) (psd_nil))
    (psd_cons (psd_set (i := 4) nd rfl (by first | exact Or.inl rfl | exact Or.inr rfl) (pd_new (pn_lc (own := [("one", 11)]) rfl nd (pid_seq (pd_var (pv 3))) (blkOk_by (N := N__law_right) (sc := defScope s__law_right) (by decide +kernel)) (fun _ _ _ _ _ => pgd_name (pg_name (i := 11) nd rfl (by first | exact Or.inl rfl | exact Or.inr rfl))) (fun _ _ _ _ _ => ptsd_nil) (fun _ _ _ _ _ => pd_call G__law_wb_excess (hr.mono (by omega)) (by rfl) g__law_wb_excess k__law_wb_excess b__law_wb_excess (pda_cons (pw_dat (pd_var (pv 11))) (pda_cons (pw_dat (pd_var (pv 9))) (pda_nil)))))))
    (psd_cons (psd_set (i := 5) nd rfl (by first | exact Or.inl rfl | exact Or.inr rfl) (pd_tuple (by rfl) z_tuple Dl.b_tuple (pq_dat (pd_new (pn_lc (own := [("i", 10)]) rfl nd (pid_range1 (by rfl) z_range (pda_cons (pw_dat (pd_var (pv 1))) (pda_nil))) (blkOk_by (N := N__law_right) (sc := defScope s__law_right) (by decide +kernel)) (fun _ _ _ _ _ => pgd_name (pg_name (i := 10) nd rfl (by first | exact Or.inl rfl | exact Or.inr rfl))) (fun _ _ _ _ _ => ptsd_nil) (fun _ _ _ _ _ => pd_call G__law_wb_less (hr.mono (by omega)) (by rfl) g__law_wb_less k__law_wb_less b__law_wb_less (pda_cons (pw_dat (pd_ix (pq_var (pv 4)) (pd_op op_add (op2_I0 fun _ _ _ _ => .int _) (pd_var (pv 10)) (pd_c pe_int (fun _ _ => .int _))) (fun _ _ => rfl))) (pda_cons (pw_dat (pd_ix (pq_var (pv 4)) (pd_var (pv 10)) (fun _ _ => rfl))) (pda_nil)))))))))
    (psd_cons (psd_set (i := 6) nd rfl (by first | exact Or.inl rfl | exact Or.inr rfl) (pd_tup (pda_cons (pw_dat (pd_c pe_int (fun _ _ => .int _))) (pda_cons (pw_dat (pd_c pe_int (fun _ _ => .int _))) (pda_nil)))))
    (psd_cons (psd_for PassesOwn.never rfl (pid_seq (pd_var (pv 5))) (pgd_name (pg_name (i := 7) nd rfl (by first | exact Or.inl rfl | exact Or.inr rfl))) (psd_one (psd_set (i := 6) nd rfl (by first | exact Or.inl rfl | exact Or.inr rfl) (pd_call G__law_wb_plus (hr.mono (by omega)) (by rfl) g__law_wb_plus k__law_wb_plus b__law_wb_plus (pda_cons (pw_dat (pd_var (pv 6))) (pda_cons (pw_dat (pd_var (pv 7))) (pda_nil)))))))
    (psd_one (psd_ret (pd_and (pd_cmp (op_eqD hr.units) (op2_eq) (pd_call G_steps (hr.mono (by omega)) (by rfl) g_steps k_steps b_steps (pda_cons (pw_dat (pd_var (pv 1))) (pda_cons (pw_dat (pd_var (pv 8))) (pda_cons (pw_dat (pd_var (pv 9))) (pda_nil))))) (pd_var (pv 5)) (nomark _)) (pe_one (pd_cmp (op_eqD hr.units) (op2_eq) (pd_var (pv 6)) (pd_call G__law_wb_excess (hr.mono (by omega)) (by rfl) g__law_wb_excess k__law_wb_excess b__law_wb_excess (pda_cons (pw_dat (pd_var (pv 8))) (pda_cons (pw_dat (pd_var (pv 9))) (pda_nil)))) (nomark _))))))))))))))))), pu⟩
abbrev s_law : Stmt := topS 65
abbrev N_law : List PySem.Str := ["script", "spot", "twin", "told", "hat", "turn", "m"]
theorem sc_law : FnScope N_law ["script"] (defScope s_law) := ⟨rfl, rfl, rfl, by decide +kernel, rfl, by decide +kernel, by decide +kernel⟩
def dt_law : DS :=
  dSeq (dIf (dTest (dOp (fEq true) (dL (dLc (dRange2 (dCons (dD (dC (.int 1))) (dCons (dD (dC (.int 7))) (dNil)))) (gSet 6) (dNot (dTest (dCall (ofF E0 F__law_words_right) (dCons (dD (dVar 6)) (dNil))))) (dVar 6) [6])) (dL (dLst (dNil))))) (dRet (dC (.bool false))) (dNext))
    (dSeq (dSet 2 (dCall (ofF E0 F_draw_of) (dCons (dD (dC (.int 2))) (dCons (dD (dTup (dCons (dD (dC (.int 3))) (dCons (dD (dC (.int 0))) (dCons (dD (dC (.int 0))) (dCons (dD (dC (.int 3))) (dNil))))))) (dNil)))))
    (dSeq (dSet 3 (dL (dLst (dCons (dD (dVar 2)) (dCons (dD (dCall (ofF E0 F_hybrid) (dCons (dD (dC (.int 2))) (dCons (dD (dVar 2)) (dCons (dD (dC (.int 0))) (dNil)))))) (dCons (dD (dCall (ofF E0 F_hybrid) (dCons (dD (dC (.int 2))) (dCons (dD (dVar 2)) (dCons (dD (dC (.int 1))) (dNil)))))) (dCons (dD (dCall (ofF E0 F_steps) (dCons (dD (dC (.int 2))) (dCons (dD (dVar 2)) (dCons (dD (dTup (dCons (dD (dC (.int 1))) (dCons (dD (dC (.int 0))) (dCons (dD (dC (.int 0))) (dCons (dD (dC (.int 1))) (dNil))))))) (dNil)))))) (dCons (dD (dCall (ofF E0 F_excess) (dCons (dD (dC (.int 2))) (dCons (dD (dVar 2)) (dCons (dD (dTup (dCons (dD (dC (.int 0))) (dCons (dD (dC (.int 1))) (dCons (dD (dC (.int 1))) (dCons (dD (dC (.int 0))) (dNil))))))) (dNil)))))) (dNil)))))))))
    (dRet (dOp (fEq false) (dVar 3) (dL (dLst (dCons (dD (dTup (dCons (dD (dC (.int 2))) (dCons (dD (dTup (dCons (dD (dC (.int 1))) (dCons (dD (dC (.int 0))) (dCons (dD (dC (.int 0))) (dCons (dD (dC (.int 1))) (dNil))))))) (dNil))))) (dCons (dD (dTup (dCons (dD (dC (.int 4))) (dCons (dD (dTup (dCons (dD (dC (.int 1))) (dCons (dD (dC (.int 1))) (dCons (dD (dC (.int 1))) (dCons (dD (dC (.int 1))) (dNil))))))) (dNil))))) (dCons (dD (dTup (dCons (dD (dC (.int 4))) (dCons (dD (dTup (dCons (dD (dC (.int 1))) (dCons (dD (dC (.int 1))) (dCons (dD (dC (.int 1))) (dCons (dD (dC (.int 1))) (dNil))))))) (dNil))))) (dCons (dD (dTup (dCons (dD (dTup (dCons (dD (dC (.int 0))) (dCons (dD (dC (.int 1))) (dNil))))) (dCons (dD (dTup (dCons (dD (dC (.int 1))) (dCons (dD (dC (.int 2))) (dNil))))) (dNil))))) (dCons (dD (dTup (dCons (dD (dNeg (dC (.int 1)))) (dCons (dD (dC (.int 2))) (dNil))))) (dNil))))))))))))
def ft_law : FS :=
  fSeq (fIf (fTest (fOp (gEq true) (fL (fLc (fRange2 (fCons (fC (.int 1)) (fCons (fC (.int 7)) (fNil)))) (fgSet 6) (fNot (fTest (fCall F__law_words_right (fCons (fVar 6) (fNil))))) (fVar 6) [6])) (fL (fLst (fNil))))) (fRet (fC (.bool false))) (fNext))
    (fSeq (fSet 2 (fCall F_draw_of (fCons (fC (.int 2)) (fCons (fTup (fCons (fC (.int 3)) (fCons (fC (.int 0)) (fCons (fC (.int 0)) (fCons (fC (.int 3)) (fNil)))))) (fNil)))))
    (fSeq (fSet 3 (fL (fLst (fCons (fVar 2) (fCons (fCall F_hybrid (fCons (fC (.int 2)) (fCons (fVar 2) (fCons (fC (.int 0)) (fNil))))) (fCons (fCall F_hybrid (fCons (fC (.int 2)) (fCons (fVar 2) (fCons (fC (.int 1)) (fNil))))) (fCons (fCall F_steps (fCons (fC (.int 2)) (fCons (fVar 2) (fCons (fTup (fCons (fC (.int 1)) (fCons (fC (.int 0)) (fCons (fC (.int 0)) (fCons (fC (.int 1)) (fNil)))))) (fNil))))) (fCons (fCall F_excess (fCons (fC (.int 2)) (fCons (fVar 2) (fCons (fTup (fCons (fC (.int 0)) (fCons (fC (.int 1)) (fCons (fC (.int 1)) (fCons (fC (.int 0)) (fNil)))))) (fNil))))) (fNil)))))))))
    (fRet (fOp (gEq false) (fVar 3) (fL (fLst (fCons (fTup (fCons (fC (.int 2)) (fCons (fTup (fCons (fC (.int 1)) (fCons (fC (.int 0)) (fCons (fC (.int 0)) (fCons (fC (.int 1)) (fNil)))))) (fNil)))) (fCons (fTup (fCons (fC (.int 4)) (fCons (fTup (fCons (fC (.int 1)) (fCons (fC (.int 1)) (fCons (fC (.int 1)) (fCons (fC (.int 1)) (fNil)))))) (fNil)))) (fCons (fTup (fCons (fC (.int 4)) (fCons (fTup (fCons (fC (.int 1)) (fCons (fC (.int 1)) (fCons (fC (.int 1)) (fCons (fC (.int 1)) (fNil)))))) (fNil)))) (fCons (fTup (fCons (fTup (fCons (fC (.int 0)) (fCons (fC (.int 1)) (fNil)))) (fCons (fTup (fCons (fC (.int 1)) (fCons (fC (.int 2)) (fNil)))) (fNil)))) (fCons (fTup (fCons (fNeg (fC (.int 1))) (fCons (fC (.int 2)) (fNil)))) (fNil))))))))))))
theorem lt_law : LeS (ofS E0 ft_law) dt_law := les_seq (les_if (le_test (le_op (leop_eq) (le_L (le_lc (le_range2 (le_cons (le_c) (le_cons (le_c) (le_nil)))) (le_gSet) (le_notT (le_test (le_call (le_cons (le_var) (le_nil))))) (le_var))) (le_L (le_lst (le_nil))))) (les_ret (le_c)) (les_next))
    (les_seq (les_set (le_call (le_cons (le_c) (le_cons (le_tup (le_cons (le_c) (le_cons (le_c) (le_cons (le_c) (le_cons (le_c) (le_nil)))))) (le_nil)))))
    (les_seq (les_set (le_L (le_lst (le_cons (le_var) (le_cons (le_call (le_cons (le_c) (le_cons (le_var) (le_cons (le_c) (le_nil))))) (le_cons (le_call (le_cons (le_c) (le_cons (le_var) (le_cons (le_c) (le_nil))))) (le_cons (le_call (le_cons (le_c) (le_cons (le_var) (le_cons (le_tup (le_cons (le_c) (le_cons (le_c) (le_cons (le_c) (le_cons (le_c) (le_nil)))))) (le_nil))))) (le_cons (le_call (le_cons (le_c) (le_cons (le_var) (le_cons (le_tup (le_cons (le_c) (le_cons (le_c) (le_cons (le_c) (le_cons (le_c) (le_nil)))))) (le_nil))))) (le_nil)))))))))
    (les_ret (le_op (leop_eq) (le_var) (le_L (le_lst (le_cons (le_tup (le_cons (le_c) (le_cons (le_tup (le_cons (le_c) (le_cons (le_c) (le_cons (le_c) (le_cons (le_c) (le_nil)))))) (le_nil)))) (le_cons (le_tup (le_cons (le_c) (le_cons (le_tup (le_cons (le_c) (le_cons (le_c) (le_cons (le_c) (le_cons (le_c) (le_nil)))))) (le_nil)))) (le_cons (le_tup (le_cons (le_c) (le_cons (le_tup (le_cons (le_c) (le_cons (le_c) (le_cons (le_c) (le_cons (le_c) (le_nil)))))) (le_nil)))) (le_cons (le_tup (le_cons (le_tup (le_cons (le_c) (le_cons (le_c) (le_nil)))) (le_cons (le_tup (le_cons (le_c) (le_cons (le_c) (le_nil)))) (le_nil)))) (le_cons (le_tup (le_cons (le_neg (le_c)) (le_cons (le_c) (le_nil)))) (le_nil))))))))))))
def db_law (SD__law_right : DSp) : DS :=
  dSeq (dFor (dRange1 (dCons (dD (dOpN fMax2 (dCons (dD (dC (.int 1))) (dCons (dD (dOpN fMin2 (dCons (dD (dC (.int 3))) (dCons (dD (dOpQ fLen (dVarQ 0))) (dNil))))) (dNil))))) (dNil))) (gSet 1) (dSeq (dSetHat 4 (dCons (dD (dVar 0)) (dCons (dD (dVar 1)) (dNil))))
    (dFor (dRange1 (dCons (dD (dC (.int 3))) (dNil))) (gSet 5) (dIf (dNot (dTest (dCall SD__law_right (dCons (dHat 4) (dNil))))) (dRet (dC (.bool false))) (dNext)))))
    (dt_law)
theorem ok_law {f : Addr} {fd : FuncData} {k : Nat} {SD : DSp} (F : Fun K "law" "law" s_law f fd) (len : ∀ ws Q, SD ws Q → ws.length = 1)
    (z_len : mg "len" = none)
    (z_min : mg "min" = none)
    (z_max : mg "max" = none)
    (z_range : mg "range" = none)
    {f__law_wb_hat : Addr} {d__law_wb_hat : FuncData} {l__law_wb_hat : Nat} (h__law_wb_hat : l__law_wb_hat ≤ k) (G__law_wb_hat : FnOk P w K mg base CX0 l__law_wb_hat f__law_wb_hat d__law_wb_hat ["script", "spot"] (spHatD K)) (g__law_wb_hat : mg "_law_wb_hat" = some (.ref f__law_wb_hat)) (k__law_wb_hat : PySem.W.keepIn K (.ref f__law_wb_hat) = true) (b__law_wb_hat : Binds K d__law_wb_hat ["script", "spot"] [])
    {f__law_right : Addr} {d__law_right : FuncData} {l__law_right : Nat} {SD__law_right : DSp} (h__law_right : l__law_right ≤ k) (G__law_right : FnOk P w K mg base CX0 l__law_right f__law_right d__law_right ["hat"] (spOf K Ps SD__law_right)) (g__law_right : mg "_law_right" = some (.ref f__law_right)) (k__law_right : PySem.W.keepIn K (.ref f__law_right) = true) (b__law_right : Binds K d__law_right ["hat"] [])
    {f__law_words_right : Addr} {d__law_words_right : FuncData} {l__law_words_right : Nat} (h__law_words_right : l__law_words_right ≤ k) (G__law_words_right : FnOk P w K mg base CX0 l__law_words_right f__law_words_right d__law_words_right ["m"] (spOf K Ps (ofF E0 F__law_words_right))) (g__law_words_right : mg "_law_words_right" = some (.ref f__law_words_right)) (k__law_words_right : PySem.W.keepIn K (.ref f__law_words_right) = true) (b__law_words_right : Binds K d__law_words_right ["m"] [])
    {f_draw_of : Addr} {d_draw_of : FuncData} {l_draw_of : Nat} (h_draw_of : l_draw_of ≤ k) (G_draw_of : FnOk P w K mg base CX0 l_draw_of f_draw_of d_draw_of ["m", "counts"] (spOf K Ps (ofF E0 F_draw_of))) (g_draw_of : mg "draw_of" = some (.ref f_draw_of)) (k_draw_of : PySem.W.keepIn K (.ref f_draw_of) = true) (b_draw_of : Binds K d_draw_of ["m", "counts"] [])
    {f_excess : Addr} {d_excess : FuncData} {l_excess : Nat} (h_excess : l_excess ≤ k) (G_excess : FnOk P w K mg base CX0 l_excess f_excess d_excess ["m", "draw", "test"] (spOf K Ps (ofF E0 F_excess))) (g_excess : mg "excess" = some (.ref f_excess)) (k_excess : PySem.W.keepIn K (.ref f_excess) = true) (b_excess : Binds K d_excess ["m", "draw", "test"] [])
    {f_steps : Addr} {d_steps : FuncData} {l_steps : Nat} (h_steps : l_steps ≤ k) (G_steps : FnOk P w K mg base CX0 l_steps f_steps d_steps ["m", "draw", "test"] (spOf K Ps (ofF E0 F_steps))) (g_steps : mg "steps" = some (.ref f_steps)) (k_steps : PySem.W.keepIn K (.ref f_steps) = true) (b_steps : Binds K d_steps ["m", "draw", "test"] [])
    {f_hybrid : Addr} {d_hybrid : FuncData} {l_hybrid : Nat} (h_hybrid : l_hybrid ≤ k) (G_hybrid : FnOk P w K mg base CX0 l_hybrid f_hybrid d_hybrid ["m", "draw", "number"] (spOf K Ps (ofF E0 F_hybrid))) (g_hybrid : mg "hybrid" = some (.ref f_hybrid)) (k_hybrid : PySem.W.keepIn K (.ref f_hybrid) = true) (b_hybrid : Binds K d_hybrid ["m", "draw", "number"] [])
    (pu : ∀ ws Qd, SD ws Qd → db_law SD__law_right { nx := fun _ => Qd .none, rt := Qd } (startD N_law.length ws)) : FnOk P w K mg base CX0 (k + 1) f fd ["script"] (spOf K Ps SD) :=
  okD F sc_law len fun cdv A outer s H E hr => ⟨_, (have nd := sc_law.nd
    psd_cons (psd_for PassesOwn.never rfl (pid_range1 (by rfl) z_range (pda_cons (pw_dat (pd_callN (call_max2 rfl) opn_max2 (by rfl) z_max Dl.b_max (pda_cons (pw_dat (pd_c pe_int (fun _ _ => .int _))) (pda_cons (pw_dat (pd_callN (call_min2 rfl) opn_min2 (by rfl) z_min Dl.b_min (pda_cons (pw_dat (pd_c pe_int (fun _ _ => .int _))) (pda_cons (pw_dat (pd_len (by rfl) z_len (pq_var (pv 0)))) (pda_nil))))) (pda_nil))))) (pda_nil))) (pgd_name (pg_name (i := 1) nd rfl (by first | exact Or.inl rfl | exact Or.inr rfl))) (psd_cons (psd_setHat (i := 4) nd rfl (by first | exact Or.inl rfl | exact Or.inr rfl) G__law_wb_hat (hr.mono (by omega)) (by rfl) g__law_wb_hat k__law_wb_hat b__law_wb_hat (pda_cons (pw_dat (pd_var (pv 0))) (pda_cons (pw_dat (pd_var (pv 1))) (pda_nil))))
    (psd_one (psd_for PassesOwn.never rfl (pid_range1 (by rfl) z_range (pda_cons (pw_dat (pd_c pe_int (fun _ _ => .int _))) (pda_nil))) (pgd_name (pg_name (i := 5) nd rfl (by first | exact Or.inl rfl | exact Or.inr rfl))) (psd_one (psd_if (ptd_not (ptd_bool (pd_call G__law_right (hr.mono (by omega)) (by rfl) g__law_right k__law_right b__law_right (pda_cons (pw_hat (pv 4)) (pda_nil))))) (psd_one (psd_ret (pd_c pe_bl (fun _ _ => .bl _)))) (psd_nil)))))))
    (psd_cons (psd_if (pt_d_cmp (op_neD hr.units) (op2_ne) (pd_new (pn_lc (own := [("m", 6)]) rfl nd (pid_range2 (by rfl) z_range (pda_cons (pw_dat (pd_c pe_int (fun _ _ => .int _))) (pda_cons (pw_dat (pd_c pe_int (fun _ _ => .int _))) (pda_nil)))) (blkOk_by (N := N_law) (sc := defScope s_law) (by decide +kernel)) (fun _ _ _ _ _ => pgd_name (pg_name (i := 6) nd rfl (by first | exact Or.inl rfl | exact Or.inr rfl))) (fun _ _ _ _ _ => pts_one (ptd_not (ptd_bool (pd_call G__law_words_right (hr.mono (by omega)) (by rfl) g__law_words_right k__law_words_right b__law_words_right (pda_cons (pw_dat (pd_var (pv 6))) (pda_nil)))))) (fun _ _ _ _ _ => pd_var (pv 6)))) (pd_new (pn_lst (pda_nil))) (nomark _)) (psd_one (psd_ret (pd_c pe_bl (fun _ _ => .bl _)))) (psd_nil))
    (psd_cons (psd_set (i := 2) nd rfl (by first | exact Or.inl rfl | exact Or.inr rfl) (pd_call G_draw_of (hr.mono (by omega)) (by rfl) g_draw_of k_draw_of b_draw_of (pda_cons (pw_dat (pd_c pe_int (fun _ _ => .int _))) (pda_cons (pw_dat (pd_tup (pda_cons (pw_dat (pd_c pe_int (fun _ _ => .int _))) (pda_cons (pw_dat (pd_c pe_int (fun _ _ => .int _))) (pda_cons (pw_dat (pd_c pe_int (fun _ _ => .int _))) (pda_cons (pw_dat (pd_c pe_int (fun _ _ => .int _))) (pda_nil))))))) (pda_nil)))))
    (psd_cons (psd_set (i := 3) nd rfl (by first | exact Or.inl rfl | exact Or.inr rfl) (pd_new (pn_lst (pda_cons (pw_dat (pd_var (pv 2))) (pda_cons (pw_dat (pd_call G_hybrid (hr.mono (by omega)) (by rfl) g_hybrid k_hybrid b_hybrid (pda_cons (pw_dat (pd_c pe_int (fun _ _ => .int _))) (pda_cons (pw_dat (pd_var (pv 2))) (pda_cons (pw_dat (pd_c pe_int (fun _ _ => .int _))) (pda_nil)))))) (pda_cons (pw_dat (pd_call G_hybrid (hr.mono (by omega)) (by rfl) g_hybrid k_hybrid b_hybrid (pda_cons (pw_dat (pd_c pe_int (fun _ _ => .int _))) (pda_cons (pw_dat (pd_var (pv 2))) (pda_cons (pw_dat (pd_c pe_int (fun _ _ => .int _))) (pda_nil)))))) (pda_cons (pw_dat (pd_call G_steps (hr.mono (by omega)) (by rfl) g_steps k_steps b_steps (pda_cons (pw_dat (pd_c pe_int (fun _ _ => .int _))) (pda_cons (pw_dat (pd_var (pv 2))) (pda_cons (pw_dat (pd_tup (pda_cons (pw_dat (pd_c pe_int (fun _ _ => .int _))) (pda_cons (pw_dat (pd_c pe_int (fun _ _ => .int _))) (pda_cons (pw_dat (pd_c pe_int (fun _ _ => .int _))) (pda_cons (pw_dat (pd_c pe_int (fun _ _ => .int _))) (pda_nil))))))) (pda_nil)))))) (pda_cons (pw_dat (pd_call G_excess (hr.mono (by omega)) (by rfl) g_excess k_excess b_excess (pda_cons (pw_dat (pd_c pe_int (fun _ _ => .int _))) (pda_cons (pw_dat (pd_var (pv 2))) (pda_cons (pw_dat (pd_tup (pda_cons (pw_dat (pd_c pe_int (fun _ _ => .int _))) (pda_cons (pw_dat (pd_c pe_int (fun _ _ => .int _))) (pda_cons (pw_dat (pd_c pe_int (fun _ _ => .int _))) (pda_cons (pw_dat (pd_c pe_int (fun _ _ => .int _))) (pda_nil))))))) (pda_nil)))))) (pda_nil)))))))))
    (psd_one (psd_ret (pd_cmp (op_eqD hr.units) (op2_eq) (pd_var (pv 3)) (pd_new (pn_lst (pda_cons (pw_dat (pd_tup (pda_cons (pw_dat (pd_c pe_int (fun _ _ => .int _))) (pda_cons (pw_dat (pd_tup (pda_cons (pw_dat (pd_c pe_int (fun _ _ => .int _))) (pda_cons (pw_dat (pd_c pe_int (fun _ _ => .int _))) (pda_cons (pw_dat (pd_c pe_int (fun _ _ => .int _))) (pda_cons (pw_dat (pd_c pe_int (fun _ _ => .int _))) (pda_nil))))))) (pda_nil))))) (pda_cons (pw_dat (pd_tup (pda_cons (pw_dat (pd_c pe_int (fun _ _ => .int _))) (pda_cons (pw_dat (pd_tup (pda_cons (pw_dat (pd_c pe_int (fun _ _ => .int _))) (pda_cons (pw_dat (pd_c pe_int (fun _ _ => .int _))) (pda_cons (pw_dat (pd_c pe_int (fun _ _ => .int _))) (pda_cons (pw_dat (pd_c pe_int (fun _ _ => .int _))) (pda_nil))))))) (pda_nil))))) (pda_cons (pw_dat (pd_tup (pda_cons (pw_dat (pd_c pe_int (fun _ _ => .int _))) (pda_cons (pw_dat (pd_tup (pda_cons (pw_dat (pd_c pe_int (fun _ _ => .int _))) (pda_cons (pw_dat (pd_c pe_int (fun _ _ => .int _))) (pda_cons (pw_dat (pd_c pe_int (fun _ _ => .int _))) (pda_cons (pw_dat (pd_c pe_int (fun _ _ => .int _))) (pda_nil))))))) (pda_nil))))) (pda_cons (pw_dat (pd_tup (pda_cons (pw_dat (pd_tup (pda_cons (pw_dat (pd_c pe_int (fun _ _ => .int _))) (pda_cons (pw_dat (pd_c pe_int (fun _ _ => .int _))) (pda_nil))))) (pda_cons (pw_dat (pd_tup (pda_cons (pw_dat (pd_c pe_int (fun _ _ => .int _))) (pda_cons (pw_dat (pd_c pe_int (fun _ _ => .int _))) (pda_nil))))) (pda_nil))))) (pda_cons (pw_dat (pd_tup (pda_cons (pw_dat (pd_neg (pd_c pe_int (fun _ _ => .int _)))) (pda_cons (pw_dat (pd_c pe_int (fun _ _ => .int _))) (pda_nil))))) (pda_nil)))))))) (nomark _)))))))), pu⟩
end
end Q
end
section
set_option Elab.async false
set_option linter.all false
/-! Fractions: least terms. -/
namespace Fr
def nf (t b : Int) : Int × Int := (t / (Int.gcd t b : Int), b / (Int.gcd t b : Int))
theorem gpos {t b : Int} (hb : 0 < b) : 0 < Int.gcd t b := Int.gcd_pos_of_ne_zero_right _ (by omega)
theorem nf_mul1 {t b : Int} : (nf t b).1 * (Int.gcd t b : Int) = t := Int.ediv_mul_cancel (Int.gcd_dvd_left ..)
theorem nf_mul2 {t b : Int} : (nf t b).2 * (Int.gcd t b : Int) = b := Int.ediv_mul_cancel (Int.gcd_dvd_right ..)
theorem nf_pos {t b : Int} (hb : 0 < b) : 0 < (nf t b).2 := by
  have h := @nf_mul2 t b
  have g := @gpos t b hb
  have g' : (0 : Int) < (Int.gcd t b : Int) := by omega
  rw [← h] at hb
  exact Int.pos_of_mul_pos_left hb g' |> fun z => z
theorem nf_cross {t b : Int} : (nf t b).1 * b = t * (nf t b).2 := by
  have h1 := @nf_mul1 t b
  have h2 := @nf_mul2 t b
  calc (nf t b).1 * b = (nf t b).1 * ((nf t b).2 * (Int.gcd t b : Int)) := by rw [h2]
    _ = ((nf t b).1 * (Int.gcd t b : Int)) * (nf t b).2 := by simp only [Int.mul_assoc, Int.mul_left_comm, Int.mul_comm]
    _ = t * (nf t b).2 := by rw [h1]
theorem nf_cop {t b : Int} (hb : 0 < b) : Int.gcd (nf t b).1 (nf t b).2 = 1 := by
  have g := @gpos t b hb
  exact Int.gcd_ediv_gcd_ediv_gcd g
theorem dvd_cop {a b c : Int} (h : a ∣ b * c) (k : Int.gcd b a = 1) : a ∣ c := by
  rw [← Int.natAbs_dvd_natAbs] at h ⊢
  rw [Int.natAbs_mul] at h
  exact Nat.Coprime.dvd_of_dvd_mul_left (show Nat.gcd a.natAbs b.natAbs = 1 by rw [Nat.gcd_comm]; exact k) h
theorem cop_unique {p q p' q' : Int} (hq : 0 < q) (hq' : 0 < q') (c : Int.gcd p q = 1) (c' : Int.gcd p' q' = 1) (h : p * q' = p' * q) : p = p' ∧ q = q' := by
  have d1 : q ∣ q' := by
    have : q ∣ p * q' := ⟨p', by rw [h, Int.mul_comm]⟩
    exact dvd_cop this c
  have d2 : q' ∣ q := by
    have : q' ∣ p' * q := ⟨p, by rw [← h, Int.mul_comm]⟩
    exact dvd_cop this c'
  have e : q = q' := Int.le_antisymm (Int.le_of_dvd hq' d1) (Int.le_of_dvd hq d2)
  subst e
  exact ⟨Int.eq_of_mul_eq_mul_right (by omega) h, rfl⟩
theorem nf_ext {t b u d : Int} (hb : 0 < b) (hd : 0 < d) (h : t * d = u * b) : nf t b = nf u d := by
  have k := cop_unique (nf_pos hb) (nf_pos hd) (nf_cop (t := t) hb) (nf_cop (t := u) hd) (by
    have e1 := @nf_cross t b
    have e2 := @nf_cross u d
    apply Int.eq_of_mul_eq_mul_right (show b * d ≠ 0 from Int.mul_ne_zero (by omega) (by omega))
    generalize (nf t b).1 = p at *
    generalize (nf t b).2 = q at *
    generalize (nf u d).1 = p' at *
    generalize (nf u d).2 = q' at *
    calc p * q' * (b * d) = (p * b) * (q' * d) := by simp only [Int.mul_assoc, Int.mul_left_comm, Int.mul_comm]
      _ = (t * q) * (q' * d) := by rw [e1]
      _ = (t * d) * (q * q') := by simp only [Int.mul_assoc, Int.mul_left_comm, Int.mul_comm]
      _ = (u * b) * (q * q') := by rw [h]
      _ = (u * q') * (q * b) := by simp only [Int.mul_assoc, Int.mul_left_comm, Int.mul_comm]
      _ = (p' * d) * (q * b) := by rw [e2]
      _ = p' * q * (b * d) := by simp only [Int.mul_assoc, Int.mul_left_comm, Int.mul_comm])
  exact Prod.ext k.1 k.2
theorem nf_iff {t b u d : Int} (hb : 0 < b) (hd : 0 < d) : nf t b = nf u d ↔ t * d = u * b := by
  refine ⟨fun h => ?_, nf_ext hb hd⟩
  have e1 := @nf_cross t b
  have e2 := @nf_cross u d
  rw [← h] at e2
  have q0 := nf_pos (t := t) hb
  generalize (nf t b).1 = p at *
  generalize (nf t b).2 = q at *
  apply Int.eq_of_mul_eq_mul_right (show q ≠ 0 by omega)
  calc t * d * q = (t * q) * d := by simp only [Int.mul_assoc, Int.mul_left_comm, Int.mul_comm]
    _ = (p * b) * d := by rw [e1]
    _ = (p * d) * b := by simp only [Int.mul_assoc, Int.mul_left_comm, Int.mul_comm]
    _ = (u * q) * b := by rw [e2]
    _ = u * b * q := by simp only [Int.mul_assoc, Int.mul_left_comm, Int.mul_comm]
theorem nf_le1 {t b : Int} : (nf t b).1.natAbs ≤ t.natAbs := by
  have h := @nf_mul1 t b
  by_cases g : Int.gcd t b = 0
  · unfold nf; rw [g]; simp
  · have e := congrArg Int.natAbs h
    rw [Int.natAbs_mul] at e
    have : 1 ≤ ((Int.gcd t b : Nat) : Int).natAbs := by omega
    rw [← e]
    exact Nat.le_mul_of_pos_right _ this
theorem nf_le2 {t b : Int} : (nf t b).2.natAbs ≤ b.natAbs := by
  have h := @nf_mul2 t b
  by_cases g : Int.gcd t b = 0
  · unfold nf; rw [g]; simp
  · have e := congrArg Int.natAbs h
    rw [Int.natAbs_mul] at e
    have : 1 ≤ ((Int.gcd t b : Nat) : Int).natAbs := by omega
    rw [← e]
    exact Nat.le_mul_of_pos_right _ this
/-- a fraction that is told in least terms -/
structure Lo (p : Int × Int) : Prop where
  pos : 0 < p.2
  cop : Int.gcd p.1 p.2 = 1
theorem nf_lo {t b : Int} (hb : 0 < b) : Lo (nf t b) := ⟨nf_pos hb, nf_cop hb⟩
theorem Lo.nf {p : Int × Int} (h : Lo p) : Fr.nf p.1 p.2 = p := by
  unfold Fr.nf
  rw [h.cop]
  simp
theorem lo_eq {p q : Int × Int} (hp : Lo p) (hq : Lo q) : p = q ↔ p.1 * q.2 = q.1 * p.2 := by
  rw [← nf_iff hp.pos hq.pos, hp.nf, hq.nf]
end Fr
end
section
set_option Elab.async false
set_option linter.all false
set_option maxRecDepth 100000
set_option maxHeartbeats 1000000
set_option exponentiation.threshold 20000
namespace Q
open PySem PySem.Spec PyProof.Rows L2 HbE Evl Dl RZ Gx Fr
/-! kinds -/
theorem is_integer_i (n : Int) : F_is_integer [.int n] = .ok (.bool true) := by simp [F_is_integer, fs_is_integer, N_is_integer]
theorem is_short_i (n : Int) : F_is_short [.int n] = .ok (.bool (decide (-999999999 ≤ n) && decide (n ≤ 999999999))) := by
  simp [F_is_short, fs_is_short, N_is_short, is_integer_i]
  by_cases h : -999999999 ≤ n <;> simp [h]
theorem is_between_i (v lo hi : Int) : F_is_between [.int v, .int lo, .int hi] = .ok (.bool (decide (lo ≤ v) && decide (v ≤ hi))) := by
  simp [F_is_between, fs_is_between, N_is_between, is_integer_i]
  by_cases h : lo ≤ v <;> simp [h]
theorem is_bit_i (v : Int) : F_is_bit [.int v] = .ok (.bool (decide (0 ≤ v) && decide (v ≤ 1))) := by simp [F_is_bit, fs_is_bit, N_is_bit, is_between_i]
theorem is_tuple_of_t (ds : List PyData) (n : Int) : F_is_tuple_of [.tuple ds, .int n] = .ok (.bool ((ds.length : Int) == n)) := by simp [F_is_tuple_of, fs_is_tuple_of, N_is_tuple_of]
def bitsOk (ns : List Int) : Bool := ns.all fun v => decide (0 ≤ v) && decide (v ≤ 1)
theorem is_word_t (ns : List Int) (n : Int) : F_is_word [tI ns, .int n] = .ok (.bool (((ns.length : Int) == n) && bitsOk ns)) := by
  simp [F_is_word, fs_is_word, N_is_word, is_tuple_of_t]
  by_cases h : (ns.length : Int) = n
  · simp [h]
    rw [allF_ok (f := fun d => match d with | .int v => decide (0 ≤ v) && decide (v ≤ 1) | _ => false)]
    · simp [bitsOk, List.all_map, Function.comp_def]
    · intro d hd
      obtain ⟨v, _, rfl⟩ := List.mem_map.mp hd
      simp [is_bit_i, wipeD]
  · simp [h]
theorem is_row_within_r (b : Int) (ns : List Int) (lo hi : Int) (hb : 1 ≤ b) : F_is_row_within [eR b ns, .int lo, .int hi] = .ok (.bool (decide (lo ≤ ns.length) && decide ((ns.length : Int) ≤ hi))) := by
  simp [F_is_row_within, fs_is_row_within, N_is_row_within, is_tuple_of_t, is_integer_i, show ¬ b < 1 by omega]
  by_cases h : lo ≤ (ns.length : Int)
  · by_cases h2 : (ns.length : Int) ≤ hi
    · simp [h, h2]
      rw [allF_ok (f := fun _ => true)]
      · simp
      · intro d hd
        obtain ⟨v, _, rfl⟩ := List.mem_map.mp hd
        simp [is_integer_i, wipeD]
    · simp [h, h2]
  · simp [h]
/-- a draw on N points -/
structure Draw (N : Nat) (b : Int) (ns : List Int) : Prop where
  len : ns.length = N
  pos : 0 < b
  nn : ∀ n ∈ ns, 0 ≤ n
  sum : ns.sum = b
theorem foldl_min_nn : ∀ (l : List Int) (n : Int), 0 ≤ n → (∀ m ∈ l, 0 ≤ m) → 0 ≤ l.foldl min n
  | [], n, h, _ => h
  | m :: l, n, h, k => foldl_min_nn l (min n m) (by have := k m List.mem_cons_self; omega) fun x hx => k x (List.mem_cons_of_mem _ hx)
theorem is_weights_r {N : Nat} {b : Int} {ns : List Int} (h : Draw N b ns) (hN : 0 < N) : F_is_weights [eR b ns, .int N] = .ok (.bool true) := by
  have hp := h.pos
  have hl := h.len
  cases ns with
  | nil => simp at hl; omega
  | cons n ns =>
    have := foldl_min_nn ns n (h.nn n List.mem_cons_self) fun x hx => h.nn x (List.mem_cons_of_mem _ hx)
    have z := is_row_within_r b (n :: ns) N N (by omega)
    simp [F_is_weights, fs_is_weights, N_is_weights, List.map_cons] at z ⊢
    rw [z]
    have e2 : intsD (PyData.int n :: List.map PyData.int ns) = some (n :: ns) := intsD_map (n :: ns)
    have e3 : (ns.length : Int) + 1 = N := by simp at hl; omega
    simp [e2, e3, this]
theorem is_mix_r {N : Nat} {b : Int} {ns : List Int} (h : Draw N b ns) (hN : 0 < N) : F_is_mix [eR b ns, .int N] = .ok (.bool true) := by
  simp [F_is_mix, fs_is_mix, N_is_mix, is_weights_r h hN, h.sum]
/-! needs -/
theorem need_number_i (v lo hi : Int) (h : lo ≤ v ∧ v ≤ hi) : F_need_number [.int v, .int lo, .int hi] = .ok .none := by simp [F_need_number, fs_need_number, N_need_number, is_between_i, h.1, h.2]
theorem need_draw_r {N : Nat} {b : Int} {ns : List Int} (h : Draw N b ns) (hN : 0 < N) : F_need_draw [eR b ns, .int N] = .ok .none := by simp [F_need_draw, fs_need_draw, N_need_draw, is_mix_r h hN]
theorem need_word_t (ns : List Int) (n : Int) (h : (ns.length : Int) = n) (hb : bitsOk ns = true) : F_need_word [tI ns, .int n] = .ok .none := by simp [F_need_word, fs_need_word, N_need_word, is_word_t, h, hb]
theorem cShl_ok1 {k : Int} (h : 0 ≤ k) (h2 : k ≤ 1000) : cShl 1 k = true := cShl_of h (a := 1) (by decide) (by omega)
theorem need_table_t (ns : List Int) (m : Nat) (hm : m ≤ 20) (h : ns.length = 2 ^ m) (hb : bitsOk ns = true) : F_need_table [tI ns, .int m] = .ok .none := by
  have e : ((ns.length : Nat) : Int) = 2 ^ m := by rw [h]; simp
  simp [F_need_table, fs_need_table, N_need_table, cShl_ok1 (k := m) (by omega) (by omega), is_word_t, e, hb]
theorem need_bits_i (m : Int) (h : 1 ≤ m ∧ m ≤ 6) : F__need_bits [.int m] = .ok .none := by
  simp [F__need_bits, fs__need_bits, N__need_bits, need_number_i m 1 6 h]
theorem need_bits_and_draw {m : Nat} {b : Int} {ns : List Int} (hm : 1 ≤ m ∧ m ≤ 6) (h : Draw (2 ^ m) b ns) : F__need_bits_and_draw [.int m, eR b ns] = .ok .none := by
  have e := need_draw_r h (Nat.two_pow_pos m)
  have e2 : (((2 ^ m : Nat)) : Int) = 2 ^ m := by simp
  rw [e2] at e
  simp [F__need_bits_and_draw, fs__need_bits_and_draw, N__need_bits_and_draw, need_bits_i m (by omega), cShl_ok1 (k := m) (by omega) (by omega), e]
end Q
end
section
set_option Elab.async false
set_option linter.all false
/-! Fractions: sums and differences; rows in least terms. -/
namespace Fr
theorem nf_scale {k t b : Int} (hk : 0 < k) (hb : 0 < b) : nf (k * t) (k * b) = nf t b := nf_ext (Int.mul_pos hk hb) hb (by grind)
theorem nf_sub {a b c d : Int} (hb : 0 < b) (hd : 0 < d) : nf ((nf a b).1 * (nf c d).2 - (nf c d).1 * (nf a b).2) ((nf a b).2 * (nf c d).2) = nf (a * d - c * b) (b * d) := by
  have e1 := @nf_cross a b
  have e2 := @nf_cross c d
  exact nf_ext (Int.mul_pos (nf_pos hb) (nf_pos hd)) (Int.mul_pos hb hd) (by
    generalize (nf a b).1 = p at *
    generalize (nf a b).2 = q at *
    generalize (nf c d).1 = p' at *
    generalize (nf c d).2 = q' at *
    grind)
theorem nf_add {a b c d : Int} (hb : 0 < b) (hd : 0 < d) : nf ((nf a b).1 * (nf c d).2 + (nf c d).1 * (nf a b).2) ((nf a b).2 * (nf c d).2) = nf (a * d + c * b) (b * d) := by
  have e1 := @nf_cross a b
  have e2 := @nf_cross c d
  exact nf_ext (Int.mul_pos (nf_pos hb) (nf_pos hd)) (Int.mul_pos hb hd) (by
    generalize (nf a b).1 = p at *
    generalize (nf a b).2 = q at *
    generalize (nf c d).1 = p' at *
    generalize (nf c d).2 = q' at *
    grind)
/-- a fraction less one that is not in least terms -/
theorem nf_subR {a b c d : Int} (hb : 0 < b) (hd : 0 < d) : nf ((nf a b).1 * d - c * (nf a b).2) ((nf a b).2 * d) = nf (a * d - c * b) (b * d) := by
  have e1 := @nf_cross a b
  exact nf_ext (Int.mul_pos (nf_pos hb) hd) (Int.mul_pos hb hd) (by
    generalize (nf a b).1 = p at *
    generalize (nf a b).2 = q at *
    grind)
def gcdL (b : Int) (ns : List Int) : Int := ns.foldl (fun g n => ((Nat.gcd g.natAbs n.natAbs : Nat) : Int)) b
theorem gcdL_bd : ∀ {ns : List Int} {b : Int}, 0 < b → 0 < gcdL b ns ∧ gcdL b ns ≤ b
  | [], b, h => ⟨h, Int.le_refl _⟩
  | n :: ns, b, h => by
    have g0 : 0 < Nat.gcd b.natAbs n.natAbs := Nat.gcd_pos_of_pos_left _ (by omega)
    have gl : Nat.gcd b.natAbs n.natAbs ≤ b.natAbs := Nat.gcd_le_left _ (by omega)
    have k := @gcdL_bd ns ((Nat.gcd b.natAbs n.natAbs : Nat) : Int) (by omega)
    exact ⟨k.1, Int.le_trans k.2 (by omega)⟩
theorem gcdL_dvd : ∀ {ns : List Int} {b : Int}, gcdL b ns ∣ b ∧ ∀ n ∈ ns, gcdL b ns ∣ n
  | [], b => ⟨Int.dvd_refl _, fun _ h => by cases h⟩
  | n :: ns, b => by
    have k := @gcdL_dvd ns ((Nat.gcd b.natAbs n.natAbs : Nat) : Int)
    have d1 : ((Nat.gcd b.natAbs n.natAbs : Nat) : Int) ∣ b := Int.ofNat_dvd_left.mpr (Nat.gcd_dvd_left _ _)
    have d2 : ((Nat.gcd b.natAbs n.natAbs : Nat) : Int) ∣ n := Int.ofNat_dvd_left.mpr (Nat.gcd_dvd_right _ _)
    refine ⟨Int.dvd_trans k.1 d1, fun x hx => ?_⟩
    rcases List.mem_cons.mp hx with rfl | hx
    · exact Int.dvd_trans k.1 d2
    · exact k.2 x hx
/-- least terms of a row -/
def lowB (b : Int) (ns : List Int) : Int := b / gcdL b ns
def lowN (b : Int) (ns : List Int) : List Int := ns.map fun n => n / gcdL b ns
theorem lowB_pos {b : Int} {ns : List Int} (hb : 0 < b) : 0 < lowB b ns := by
  have h := gcdL_dvd (ns := ns) (b := b)
  have g := gcdL_bd (ns := ns) hb
  exact Int.ediv_pos_of_pos_of_dvd hb (by omega) h.1
theorem lowB_le {b : Int} {ns : List Int} (hb : 0 < b) : lowB b ns ≤ b := by
  have g := gcdL_bd (ns := ns) hb
  exact Int.ediv_le_self _ (by omega)
def dotZ (ns ms : List Int) : Int := (List.zipWith (· * ·) ns ms).sum
theorem dotZ_cons (n m : Int) (ns ms : List Int) : dotZ (n :: ns) (m :: ms) = n * m + dotZ ns ms := by simp [dotZ]
theorem dot_div {g : Int} : ∀ {ns ms : List Int}, (∀ n ∈ ns, g ∣ n) → dotZ (ns.map (· / g)) ms * g = dotZ ns ms
  | [], ms, _ => by simp [dotZ]
  | n :: ns, [], _ => by simp [dotZ]
  | n :: ns, m :: ms, h => by
    have ih := dot_div (ns := ns) (ms := ms) fun x hx => h x (List.mem_cons_of_mem _ hx)
    have e := Int.ediv_mul_cancel (h n List.mem_cons_self)
    rw [List.map_cons, dotZ_cons, dotZ_cons]
    generalize n / g = q at *
    grind
theorem low_cross {b : Int} {ns ms : List Int} (hb : 0 < b) : dotZ (lowN b ns) ms * b = dotZ ns ms * lowB b ns := by
  have h := gcdL_dvd (ns := ns) (b := b)
  have g := gcdL_bd (ns := ns) hb
  have e1 := dot_div (ms := ms) h.2
  have e2 := Int.ediv_mul_cancel h.1
  unfold lowN lowB
  generalize dotZ (ns.map fun n => n / gcdL b ns) ms = x at *
  generalize b / gcdL b ns = y at *
  generalize gcdL b ns = z at *
  grind
end Fr
end
section
set_option Elab.async false
set_option linter.all false
set_option maxRecDepth 100000
set_option maxHeartbeats 1000000
set_option exponentiation.threshold 20000
namespace Q
open PySem PySem.Spec PyProof.Rows L2 HbE Evl Dl RZ Gx Fr
/-! exact -/
theorem reduced_i {t b : Int} (hb : 0 < b) (h : b.natAbs < 2 ^ 9000) : F_reduced [.int t, .int b] = .ok (eF (nf t b)) := by
  have g0 : 0 < Nat.gcd t.natAbs b.natAbs := Nat.gcd_pos_of_pos_right _ (by omega)
  have gl : Nat.gcd t.natAbs b.natAbs ≤ b.natAbs := Nat.gcd_le_right _ (by omega)
  have c : ∀ x : Int, cDiv x ((Nat.gcd t.natAbs b.natAbs : Nat) : Int) = true := fun x => cDiv_lt (by omega) (b := 9000) (by rw [Int.natAbs_natCast]; exact Nat.lt_of_le_of_lt gl h) (by omega)
  have nb : ¬ b < 0 := by omega
  simp [F_reduced, fs_reduced, N_reduced, nb, c, lim_of, nf, Int.gcd]
theorem minus_f {p q : Int × Int} {k : Nat} (hp : 0 < p.2) (hq : 0 < q.2) (h1 : p.1.natAbs < 2 ^ k) (h2 : p.2.natAbs < 2 ^ k) (h3 : q.1.natAbs < 2 ^ k) (h4 : q.2.natAbs < 2 ^ k) (hk : k ≤ 4000) :
    F_minus [eF p, eF q] = .ok (eF (nf (p.1 * q.2 - q.1 * p.2) (p.2 * q.2))) := by
  have m1 : cMul p.1 q.2 = true := cMul_lt h1 h4
  have m2 : cMul q.1 p.2 = true := cMul_lt h3 h2
  have m3 : cMul p.2 q.2 = true := cMul_lt h2 h4
  have e := reduced_i (t := p.1 * q.2 - q.1 * p.2) (Int.mul_pos hp hq) (by
    rw [Int.natAbs_mul]
    refine Nat.lt_of_lt_of_le (Nat.mul_lt_mul'' h2 h4) ?_
    rw [← Nat.pow_add]
    exact Nat.pow_le_pow_right (by omega) (by omega))
  simp [F_minus, fs_minus, N_minus, m1, m2, m3, e]
theorem mem_zipWith {α β γ : Type} {f : α → β → γ} {d : γ} : ∀ {as : List α} {bs : List β}, d ∈ List.zipWith f as bs → ∃ a ∈ as, ∃ b ∈ bs, d = f a b
  | [], _, h => by simp at h
  | _ :: _, [], h => by simp at h
  | a :: as, b :: bs, h => by
    rcases List.mem_cons.mp h with rfl | h
    · exact ⟨a, List.mem_cons_self, b, List.mem_cons_self, rfl⟩
    · obtain ⟨a', h1, b', h2, e⟩ := mem_zipWith h
      exact ⟨a', List.mem_cons_of_mem _ h1, b', List.mem_cons_of_mem _ h2, e⟩
theorem dot_t {ns ms : List Int} {k : Nat} (hn : ∀ n ∈ ns, n.natAbs < 2 ^ k) (hm : ∀ n ∈ ms, n.natAbs < 2 ^ k) (hk : k ≤ 9000) (hl : ns.length ≤ 100000) : F_dot [tI ns, tI ms] = .ok (.int (dotZ ns ms)) := by
  simp [F_dot, fs_dot, N_dot]
  rw [if_pos (lim_of (by omega)), lcF_ok (f := fun d => match d with | .tuple [.int a, .int b] => .int (a * b) | d => d)]
  · have e : List.map (fun d => match d with | PyData.tuple [.int a, .int b] => PyData.int (a * b) | d => d) (List.zipWith (fun a b => PyData.tuple [.int a, .int b]) ns ms) = (List.zipWith (· * ·) ns ms).map PyData.int := by
      rw [List.map_zipWith, List.map_zipWith]
    rw [e]
    have e2 : intsD (List.zipWith (fun x y => PyData.int (x * y)) ns ms) = some (List.zipWith (· * ·) ns ms) := by
      rw [← intsD_map (List.zipWith (· * ·) ns ms), List.map_zipWith]
    simp [dotZ, e2]
  · intro d hd
    obtain ⟨a, ha, b, hb, rfl⟩ := mem_zipWith hd
    have c : cMul a b = true := cMul_lt (hn _ ha) (hm _ hb)
    simp [wipeD, c]
theorem lowest_row_s (l : Bool) {b : Int} {ns : List Int} (hb : 0 < b) (h : b.natAbs < 2 ^ 9000) (hl : ns.length ≤ 100000) : F_lowest_row [.int b, sI l ns] = .ok (eR (lowB b ns) (lowN b ns)) := by
  obtain ⟨σ', h1, h2⟩ := forF_inv (g := fgSet 3) (b := fSet 2 (fOpN gGcd (fCons (fVar 2) (fCons (fVar 3) fNil)))) (ds := ns.map PyData.int) (fun i σ => ∃ x, σ = [some (.dat (.int b)), some (.dat (sI l ns)), some (.dat (.int (gcdL b (ns.take i)))), x]) (fun i d σ hd ⟨x, e⟩ => by
    rw [List.getElem?_map] at hd
    cases hn : ns[i]? with
    | none => rw [hn] at hd; cases hd
    | some n =>
      rw [hn] at hd
      cases hd
      subst e
      refine ⟨_, _, rfl, .inl (by simp; rfl), some (.dat (.int n)), ?_⟩
      have : ns.take (i + 1) = ns.take i ++ [n] := by
        rw [List.take_succ, hn]
        rfl
      rw [this]
      simp [gcdL, List.foldl_append]) (σ := [some (.dat (.int b)), some (.dat (sI l ns)), some (.dat (.int b)), none]) ⟨none, by simp [gcdL]⟩
  obtain ⟨x, rfl⟩ := h2
  have g := @gcdL_bd ns b hb
  have c : ∀ y : Int, cDiv y (gcdL b ns) = true := fun y => cDiv_lt g.1 (b := 9000) (Nat.lt_of_le_of_lt (by omega) h) (by omega)
  have fin : ∀ σ0, lcF (fgSet 3) fYes (fOp (gI cDiv fun i j => PyData.int (i / j)) (fVar 3) (fVar 2)) (wipeD [some (.dat (.int b)), σ0, some (.dat (.int (gcdL b ns))), x] [3]) (ns.map .int) = .ok ((ns.map fun n => n / gcdL b ns).map PyData.int) := fun σ0 => by
    rw [lcF_ok (f := fun d => match d with | .int a => .int (a / gcdL b ns) | d => d)]
    · simp
    · intro d hd
      obtain ⟨n, hn, rfl⟩ := List.mem_map.mp hd
      simp [wipeD, c]
  have ll : lim ns.length = true := lim_of hl
  have l2 : lim 2 = true := rfl
  have e : List.take ns.length ns = ns := List.take_length
  simp only [List.length_map, e] at h1
  simp [F_lowest_row, fs_lowest_row, N_lowest_row, h1, c, ll, l2, fin, lowB, lowN]
/-! codes -/
def wordZ (n k : Nat) : List Int := (List.range k).map fun p => ((n / 2 ^ p % 2 : Nat) : Int)
theorem spelled_i (n k : Nat) (hk : k ≤ 1000) : F_spelled [.int n, .int k] = .ok (tI (wordZ n k)) := by
  simp [F_spelled, fs_spelled, N_spelled]
  rw [if_pos (cRng_of (by omega) (by omega))]
  simp only [bind_ok, List.length_map, List.length_range]
  rw [if_pos (lim_of (by omega)), lcF_ok (f := fun d => match d with | .int p => .int ((n / 2 ^ p.toNat % 2 : Nat) : Int) | d => d)]
  · simp [wordZ, Function.comp_def]
  · intro d hd
    obtain ⟨p, hp, rfl⟩ := List.mem_map.mp hd
    have c : cNn (n : Int) (p : Int) = true := cNn_of (by omega)
    simp [wipeD, c, bitAnd_m1]
def numZ (ns : List Int) : Int := (ns.mapIdx fun i b => b * 2 ^ i).sum
theorem number_of_t (ns : List Int) (hb : bitsOk ns = true) (hl : ns.length ≤ 1000) : F_number_of [tI ns] = .ok (.int (numZ ns)) := by
  simp [F_number_of, fs_number_of, N_number_of]
  rw [if_pos (lim_of (by omega)), lcF_ok (f := fun d => match d with | .tuple [.int a, .int b] => .int (b * 2 ^ a.toNat) | d => d)]
  · have e : List.map (fun d => match d with | PyData.tuple [.int a, .int b] => PyData.int (b * 2 ^ a.toNat) | d => d) (List.mapIdx (fun i x => PyData.tuple [PyData.int ↑i, x]) (List.map PyData.int ns)) = (ns.mapIdx fun i b => b * 2 ^ i).map PyData.int := by
      apply List.ext_getElem?
      intro i
      simp only [List.getElem?_map, List.getElem?_mapIdx, Option.map_map]
      cases ns[i]? <;> simp
    rw [e]
    simp [numZ]
  · intro d hd
    obtain ⟨i, hi, rfl⟩ := List.mem_mapIdx.mp hd
    simp at hi
    have hbi : bitsOk ns = true := hb
    simp only [bitsOk, List.all_eq_true] at hbi
    have := hbi ns[i] (List.getElem_mem hi)
    simp at this
    have c : cShl ns[i] (i : Int) = true := cShl_of (a := 1) (by omega) (by omega) (by omega)
    simp [wipeD, c]
end Q
end
section
set_option Elab.async false
set_option linter.all false
set_option maxRecDepth 100000
set_option maxHeartbeats 1000000
set_option exponentiation.threshold 20000
namespace Q
open PySem PySem.Spec PyProof.Rows L2 HbE Evl Dl RZ Gx Fr
theorem mask_mod (n L : Nat) : Builtin.bitAnd (n : Int) ((2 : Int) ^ L - 1) = ((n % 2 ^ L : Nat) : Int) := by
  have e : ((2 : Int) ^ L - 1) = ((2 ^ L - 1 : Nat) : Int) := by
    have := Nat.two_pow_pos L
    rw [Int.natCast_sub (by omega)]
    simp
  rw [e, PySem.W.os_band, Nat.and_two_pow_sub_one_eq_mod]
/-- the sum of the numbers at places that are j, seen by the lowest L bits -/
def sumAt (ns : List Int) (L j : Nat) : Int := (ns.mapIdx fun w n => if w % 2 ^ L = j then n else 0).sum
theorem sumAt_snoc (ns : List Int) (n : Int) (L j : Nat) : sumAt (ns ++ [n]) L j = sumAt ns L j + if ns.length % 2 ^ L = j then n else 0 := by
  unfold sumAt
  rw [List.mapIdx_append, List.sum_append]
  simp
def headsZ (ns : List Int) (L : Nat) : List Int := (List.range (2 ^ L)).map fun j => sumAt ns L j
theorem headsZ_at {ns : List Int} {L j : Nat} (h : j < 2 ^ L) : (headsZ ns L)[j]? = some (sumAt ns L j) := by simp [headsZ, h]
theorem pow2_c (L : Nat) : (1 : Int) * 2 ^ ((L : Int).toNat) = ((2 ^ L : Nat) : Int) := by simp
theorem heads_t {ns : List Int} {L : Nat} (hL : L ≤ 16) : F__heads [tI ns, .int L] = .ok (.list ((headsZ ns L).map .int)) := by
  have cs : cShl 1 (L : Int) = true := cShl_ok1 (by omega) (by omega)
  have p16 : 2 ^ L ≤ 65536 := Nat.pow_le_pow_right (n := 2) (by omega) hL
  obtain ⟨σ', h1, h2⟩ := forF_inv (g := fgTup 2 (fgsCons (fgSet 3) (fgsCons (fgSet 4) fgsNil)))
    (b := fAugIx 2 (fOp (gI0 fun i j => .int (Builtin.bitAnd i j)) (fVar 3) (fOp (gI0 fun i j => .int (i - j)) (fOp (gI cShl fun i j => .int (i * 2 ^ j.toNat)) (fC (.int 1)) (fVar 1)) (fC (.int 1)))) (fVar 4))
    (ds := (ns.map PyData.int).mapIdx fun i x => PyData.tuple [.int (i : Nat), x])
    (fun i σ => ∃ x y, σ = [some (.dat (tI ns)), some (.dat (.int L)), some (.own ((headsZ (ns.take i) L).map .int)), x, y]) (fun i d σ hd ⟨x, y, e⟩ => by
    rw [List.getElem?_mapIdx, List.getElem?_map] at hd
    cases hn : ns[i]? with
    | none => rw [hn] at hd; cases hd
    | some n =>
      rw [hn] at hd
      cases hd
      subst e
      have hi : i < ns.length := (List.getElem?_eq_some_iff.mp hn).1
      have hm : i % 2 ^ L < 2 ^ L := Nat.mod_lt _ (Nat.two_pow_pos L)
      have et : ns.take (i + 1) = ns.take i ++ [n] := by
        rw [List.take_succ, hn]
        rfl
      have ix : ixN (2 ^ L) (((i % 2 ^ L : Nat)) : Int) = some (i % 2 ^ L) := ixN_at hm
      have at' : (((headsZ (ns.take i) L).map PyData.int))[i % 2 ^ L]? = some (.int (sumAt (ns.take i) L (i % 2 ^ L))) := by rw [List.getElem?_map, headsZ_at hm]; rfl
      have hl : (headsZ (ns.take i) L).length = 2 ^ L := by simp [headsZ]
      have up : ((headsZ (ns.take i) L).map PyData.int).set (i % 2 ^ L) (.int (sumAt (ns.take i) L (i % 2 ^ L) + n)) = (headsZ (ns.take (i + 1)) L).map PyData.int := by
        apply List.ext_getElem?
        intro j
        rw [List.getElem?_set, List.getElem?_map, List.getElem?_map]
        by_cases hj : j < 2 ^ L
        · rw [headsZ_at hj, headsZ_at hj, et, sumAt_snoc]
          have tl : (ns.take i).length = i := by simp; omega
          rw [tl]
          by_cases e : i % 2 ^ L = j
          · subst e
            simp [hl, hm]
          · simp [e]
        · have e1 : (headsZ (ns.take i) L)[j]? = none := by simp [headsZ]; omega
          have e2 : (headsZ (ns.take (i + 1)) L)[j]? = none := by simp [headsZ]; omega
          have e3 : i % 2 ^ L ≠ j := by omega
          rw [e1, e2, if_neg e3]
      refine ⟨[some (.dat (tI ns)), some (.dat (.int L)), some (.own ((headsZ (ns.take i) L).map .int)), some (.dat (.int i)), some (.dat (.int n))], [some (.dat (tI ns)), some (.dat (.int L)), some (.own ((headsZ (ns.take (i + 1)) L).map .int)), some (.dat (.int i)), some (.dat (.int n))], ?_, .inl ?_, _, _, rfl⟩
      · simp
      · have mm := mask_mod i L
        rw [← up]
        simp only [fAugIx, fOp, fVar, fC, List.getElem?_cons_succ, List.getElem?_cons_zero, bind_ok, gI_int, cs, if_true, ofO_some, gI0_int, asI_int, List.length_map, hl]
        rw [Int.toNat_natCast, Int.one_mul, mm, ix]
        simp only [ofO_some, bind_ok, at', asI_int, List.getElem?_cons_succ, List.getElem?_cons_zero]
        rfl) (σ := [some (.dat (tI ns)), some (.dat (.int L)), some (.own (List.replicate (2 ^ L) (.int 0))), none, none]) ⟨none, none, by
      have : (headsZ (ns.take 0) L).map PyData.int = List.replicate (2 ^ L) (.int 0) := by
        apply List.ext_getElem?
        intro j
        by_cases hj : j < 2 ^ L
        · simp [headsZ, hj, sumAt]
        · simp [headsZ, hj]
      rw [this]⟩
  obtain ⟨x, y, rfl⟩ := h2
  have e : List.take ns.length ns = ns := List.take_length
  simp only [List.length_mapIdx, List.length_map, e] at h1
  have b1 : lim (2 ^ L) = true := lim_of (by omega)
  have b2 : 2 ^ L ≤ 1000000 := by omega
  have e3 : ((2 : Int) ^ L).toNat = 2 ^ L := by
    have e1 : ((2 : Int) ^ L) = ((2 ^ L : Nat) : Int) := by simp
    rw [e1, Int.toNat_natCast]
  have e4 : (List.replicate (2 ^ L) [PyData.int 0]).flatten = List.replicate (2 ^ L) (PyData.int 0) := by
    generalize 2 ^ L = n
    induction n with
    | zero => rfl
    | succ n ih => rw [List.replicate_succ, List.flatten_cons, ih]; rfl
  simp [F__heads, fs__heads, N__heads, cs, b1, b2, e3, e4, h1]
theorem list_sI (ns : List Int) : PyData.list (ns.map .int) = sI true ns := rfl
def sprZ (ns : List Int) (m L : Nat) : List Int := (List.range (2 ^ m)).map fun w => sumAt ns L (w % 2 ^ L)
theorem hybrid_of_r {m L : Nat} {b : Int} {ns : List Int} (hm : m ≤ 16) (hL : L ≤ m) (hb : 0 < b) (h : b.natAbs < 2 ^ 4000) : F__hybrid_of [.int m, eR b ns, .int L] = .ok (eR (lowB (b * 2 ^ (m - L)) (sprZ ns m L)) (lowN (b * 2 ^ (m - L)) (sprZ ns m L))) := by
  have cs : ∀ k : Nat, k ≤ 16 → cShl 1 (k : Int) = true := fun k hk => cShl_ok1 (by omega) (by omega)
  have cb : cShl b ((m : Int) - L) = true := cShl_of (a := 4000) (by omega) h (by omega)
  have t : ((m : Int) - L).toNat = m - L := by omega
  have p16 : 2 ^ m ≤ 65536 := Nat.pow_le_pow_right (n := 2) (by omega) hm
  have rn : ((2 : Int) ^ m).toNat = 2 ^ m := by
    have e1 : ((2 : Int) ^ m) = ((2 ^ m : Nat) : Int) := by simp
    rw [e1, Int.toNat_natCast]
  have rc : cRng ((2 : Int) ^ m) = true := by
    have e1 : ((2 : Int) ^ m) = ((2 ^ m : Nat) : Int) := by simp
    rw [e1]
    exact cRng_of (by omega) (by omega)
  have lc : lcF (fgSet 5) fYes (fIx (fVarQ 3) (fOp (gI0 fun i j => .int (Builtin.bitAnd i j)) (fVar 5) (fOp (gI0 fun i j => .int (i - j)) (fOp (gI cShl fun i j => .int (i * 2 ^ j.toNat)) (fC (.int 1)) (fVar 2)) (fC (.int 1)))))
      [some (.dat (.int m)), some (.dat (eR b ns)), some (.dat (.int L)), some (.dat (.list ((headsZ ns L).map .int))), none, none] ((List.range (2 ^ m)).map fun i : Nat => PyData.int i) = .ok ((sprZ ns m L).map .int) := by
    rw [lcF_ok (f := fun d => match d with | .int w => .int (sumAt ns L (w.toNat % 2 ^ L)) | d => d)]
    · simp [sprZ, Function.comp_def]
    · intro d hd
      obtain ⟨w, hw, rfl⟩ := List.mem_map.mp hd
      have mm := mask_mod w L
      have hm2 : w % 2 ^ L < 2 ^ L := Nat.mod_lt _ (Nat.two_pow_pos L)
      have at' : atI ((headsZ ns L).map PyData.int) (((w % 2 ^ L : Nat)) : Int) = some (.int (sumAt ns L (w % 2 ^ L))) := atI_at (by rw [List.getElem?_map, headsZ_at hm2]; rfl)
      simp only [fgSet, fIx, fVarQ, fOp, fVar, fC, List.set_cons_succ, List.set_cons_zero, List.getElem?_cons_succ, List.getElem?_cons_zero, bind_ok, gI_int, cs L (by omega), if_true, ofO_some, gI0_int, asI_int]
      rw [Int.toNat_natCast, Int.one_mul, mm, at']
      rfl
  have bp : 0 < b * 2 ^ (m - L) := Int.mul_pos hb (Int.pow_pos (by omega))
  have bb : (b * 2 ^ (m - L)).natAbs < 2 ^ 9000 := by
    rw [Int.natAbs_mul, Int.natAbs_pow]
    have h2 : (2 : Int).natAbs ^ (m - L) < 2 ^ 17 := Nat.pow_lt_pow_right (by decide) (by omega)
    refine Nat.lt_of_lt_of_le (Nat.mul_lt_mul'' h h2) ?_
    rw [← Nat.pow_add]
    exact Nat.pow_le_pow_right (by omega) (by omega)
  have lr := lowest_row_s true (ns := sprZ ns m L) bp bb (by simp [sprZ]; omega)
  have e5 : sI true (sprZ ns m L) = .list ((sprZ ns m L).map .int) := rfl
  rw [e5] at lr
  simp [F__hybrid_of, fs__hybrid_of, N__hybrid_of, heads_t (ns := ns) (L := L) (by omega), cs m hm, rn, rc, lim_of (n := 2 ^ m) (by omega), wipeD, lc, cb, t, lr]
end Q
end
section
set_option Elab.async false
set_option linter.all false
set_option maxRecDepth 100000
set_option maxHeartbeats 1000000
set_option exponentiation.threshold 20000
namespace Q
open PySem PySem.Spec PyProof.Rows L2 HbE Evl Dl RZ Gx Fr
theorem words_i (m : Nat) (h : 1 ≤ m ∧ m ≤ 6) : F_words [.int m] = .ok (.tuple ((List.range (2 ^ m)).map fun n => tI (wordZ n m))) := by
  have cs : cShl 1 (m : Int) = true := cShl_ok1 (by omega) (by omega)
  have p6 : 2 ^ m ≤ 64 := Nat.pow_le_pow_right (n := 2) (by omega) h.2
  have rn : ((2 : Int) ^ m).toNat = 2 ^ m := by
    have e1 : ((2 : Int) ^ m) = ((2 ^ m : Nat) : Int) := by simp
    rw [e1, Int.toNat_natCast]
  have rc : cRng ((2 : Int) ^ m) = true := by
    have e1 : ((2 : Int) ^ m) = ((2 ^ m : Nat) : Int) := by simp
    rw [e1]
    exact cRng_of (by omega) (by omega)
  have lc : lcF (fgSet 1) fYes (fCall F_spelled (fCons (fVar 1) (fCons (fVar 0) fNil))) [some (.dat (.int m)), none] ((List.range (2 ^ m)).map fun i : Nat => PyData.int i) = .ok ((List.range (2 ^ m)).map fun n => tI (wordZ n m)) := by
    rw [lcF_ok (f := fun d => match d with | .int w => tI (wordZ w.toNat m) | d => d)]
    · simp [Function.comp_def]
    · intro d hd
      obtain ⟨w, hw, rfl⟩ := List.mem_map.mp hd
      simp [spelled_i w m (by omega)]
  simp [F_words, fs_words, N_words, need_bits_i m (by omega), cs, rn, rc, wipeD, lc, lim_of (n := 2 ^ m) (by omega)]
theorem word_number_t (m : Nat) (ts : List Int) (h : 1 ≤ m ∧ m ≤ 6) (hl : ts.length = m) (hb : bitsOk ts = true) : F_word_number [.int m, tI ts] = .ok (.int (numZ ts)) := by
  simp [F_word_number, fs_word_number, N_word_number, need_bits_i m (by omega), need_word_t ts m (by omega) hb, number_of_t ts hb (by omega)]
theorem even_draw_i (m : Nat) (h : 1 ≤ m ∧ m ≤ 6) : F_even_draw [.int m] = .ok (eR ((2 ^ m : Nat) : Int) (List.replicate (2 ^ m) 1)) := by
  have cs : cShl 1 (m : Int) = true := cShl_ok1 (by omega) (by omega)
  have p6 : 2 ^ m ≤ 64 := Nat.pow_le_pow_right (n := 2) (by omega) h.2
  have p2 : 2 ≤ 2 ^ m := by
    have := Nat.pow_le_pow_right (n := 2) (by omega) h.1
    omega
  have e1 : ((2 : Int) ^ m) = ((2 ^ m : Nat) : Int) := by simp
  have rn : ((2 : Int) ^ m).toNat = 2 ^ m := by rw [e1, Int.toNat_natCast]
  have g2 : (2 : Int) ≤ (2 : Int) ^ m := by rw [e1]; omega
  have g1 : (1 : Int) ≤ (2 : Int) ^ m := by omega
  have e4 : (List.replicate (2 ^ m) [PyData.int 1]).flatten = List.replicate (2 ^ m) (PyData.int 1) := by
    generalize 2 ^ m = n
    induction n with
    | zero => rfl
    | succ n ih => rw [List.replicate_succ, List.flatten_cons, ih]; rfl
  have b : 2 ^ m ≤ 1000 := by omega
  simp [F_even_draw, fs_even_draw, N_even_draw, need_bits_i m (by omega), cs, rn, e4, g2, g1, b, eR, tI]
/-- numbers from 0 to c -/
def Bd (c : Int) (ns : List Int) : Prop := ∀ n ∈ ns, 0 ≤ n ∧ n ≤ c
theorem dot_bd {c : Int} : ∀ {ns ts : List Int}, Bd c ns → bitsOk ts = true → 0 ≤ dotZ ns ts ∧ dotZ ns ts ≤ ns.length * c
  | [], ts, _, _ => by simp [dotZ]
  | n :: ns, [], h, _ => by
    have h1 := h n List.mem_cons_self
    simp only [dotZ, List.zipWith_nil_right, List.sum_nil, List.length_cons]
    exact ⟨Int.le_refl _, Int.mul_nonneg (by omega) (by omega)⟩
  | n :: ns, t :: ts, h, hb => by
    have h1 := h n List.mem_cons_self
    simp only [bitsOk, List.all_cons, Bool.and_eq_true, decide_eq_true_eq] at hb
    have ih := dot_bd (ns := ns) (ts := ts) (fun x hx => h x (List.mem_cons_of_mem _ hx)) hb.2
    rw [dotZ_cons]
    have ht : t = 0 ∨ t = 1 := by omega
    have e : (((n :: ns).length : Nat) : Int) * c = ns.length * c + c := by
      rw [List.length_cons]
      have : ((ns.length + 1 : Nat) : Int) = (ns.length : Int) + 1 := by omega
      rw [this, Int.add_mul, Int.one_mul]
    rw [e]
    rcases ht with rfl | rfl
    · rw [Int.mul_zero]; omega
    · rw [Int.mul_one]; omega
theorem bd_lt {c x : Int} {k : Nat} (h : 0 ≤ x ∧ x ≤ c) (hc : c.natAbs < 2 ^ k) : x.natAbs < 2 ^ k := by omega
theorem bits_lt {ts : List Int} (hb : bitsOk ts = true) : ∀ n ∈ ts, n.natAbs < 2 ^ 1 := fun n hn => by
  simp only [bitsOk, List.all_eq_true] at hb
  have := hb n hn
  simp at this
  omega
theorem pow_up {x a b : Nat} (h : x < 2 ^ a) (k : a ≤ b) : x < 2 ^ b := Nat.lt_of_lt_of_le h (Nat.pow_le_pow_right (by omega) k)
theorem chance_r {b c : Int} {ns ts : List Int} {k : Nat} (hb : 0 < b) (hb2 : b.natAbs < 2 ^ k) (hc : c.natAbs < 2 ^ k) (hk : k ≤ 4000) (h : Bd c ns) (ht : bitsOk ts = true) (hl : ns.length ≤ 100000) : F_chance_of [eR b ns, tI ts] = .ok (eF (nf (dotZ ns ts) b)) := by
  have d := dot_t (ns := ns) (ms := ts) (k := k + 1) (fun n hn => pow_up (bd_lt (h n hn) hc) (by omega)) (fun n hn => pow_up (bits_lt ht n hn) (by omega)) (by omega) hl
  have r := reduced_i (t := dotZ ns ts) hb (pow_up hb2 (by omega))
  simp [F_chance_of, fs_chance_of, N_chance_of, d, r]
def excZ (b : Int) (ns ts : List Int) : Int × Int := nf (dotZ ns ts * ts.length - ts.sum * b) (b * ts.length)
theorem sum_bits : ∀ {ts : List Int}, bitsOk ts = true → 0 ≤ ts.sum ∧ ts.sum ≤ ts.length
  | [], _ => by simp
  | t :: ts, h => by
    simp only [bitsOk, List.all_cons, Bool.and_eq_true, decide_eq_true_eq] at h
    have ih := sum_bits (ts := ts) h.2
    simp only [List.sum_cons, List.length_cons]
    omega
theorem excess_of_r {b c : Int} {ns ts : List Int} {k : Nat} (hb : 0 < b) (hb2 : b.natAbs < 2 ^ k) (hc : c.natAbs < 2 ^ k) (hk : k ≤ 3000) (h : Bd c ns) (ht : bitsOk ts = true) (hl : ns.length ≤ 100000) (h0 : 0 < ts.length) (h2 : ts.length ≤ 100000) :
    F_excess_of [eR b ns, tI ts] = .ok (eF (excZ b ns ts)) := by
  have ch := chance_r hb hb2 hc (by omega) h ht hl
  have sb := sum_bits ht
  have db := dot_bd h ht
  have p17 : (100000 : Nat) < 2 ^ 17 := by decide
  have D1 : (dotZ ns ts).natAbs < 2 ^ (k + 17) := by
    have e : (dotZ ns ts).natAbs ≤ ns.length * c.natAbs := by
      have : ((ns.length * c.natAbs : Nat) : Int) = ns.length * (c.natAbs : Int) := by simp
      by_cases hz : ns.length = 0
      · have : ns = [] := List.length_eq_zero_iff.mp hz
        subst this
        simp [dotZ]
      · have c0 : 0 ≤ c := by
          cases ns with
          | nil => simp at hz
          | cons n ns => have := h n List.mem_cons_self; omega
        have : (c.natAbs : Int) = c := by omega
        have e2 : ((ns.length * c.natAbs : Nat) : Int) = ns.length * c := by rw [Int.natCast_mul, this]
        omega
    refine Nat.lt_of_le_of_lt e ?_
    rw [Nat.pow_add, Nat.mul_comm]
    exact Nat.mul_lt_mul'' hc (by omega)
  have m := minus_f (p := nf (dotZ ns ts) b) (q := (ts.sum, (ts.length : Int))) (k := k + 17) (nf_pos hb) (by omega) (Nat.lt_of_le_of_lt nf_le1 D1) (Nat.lt_of_le_of_lt nf_le2 (pow_up hb2 (by omega)))
    (by show ts.sum.natAbs < _; exact pow_up (a := 17) (by omega) (by omega)) (by show ((ts.length : Nat) : Int).natAbs < _; exact pow_up (a := 17) (by omega) (by omega)) (by omega)
  rw [nf_subR hb (by omega)] at m
  simp [F_excess_of, fs_excess_of, N_excess_of, ch]
  rw [show PyData.tuple [PyData.int ts.sum, PyData.int ↑ts.length] = eF (ts.sum, (ts.length : Int)) from rfl, m]
  rfl
theorem Draw.bd {N : Nat} {b : Int} {ns : List Int} (h : Draw N b ns) : Bd b ns := fun n hn => by
  have : ∀ {l : List Int}, (∀ x ∈ l, 0 ≤ x) → ∀ x ∈ l, x ≤ l.sum ∧ 0 ≤ l.sum := by
    intro l
    induction l with
    | nil => intro _ x hx; cases hx
    | cons y l ih =>
      intro hp x hx
      have hy := hp y List.mem_cons_self
      have h0 : 0 ≤ l.sum := by
        cases l with
        | nil => simp
        | cons z l => exact (ih (fun x hx => hp x (List.mem_cons_of_mem _ hx)) z List.mem_cons_self).2
      rw [List.sum_cons]
      rcases List.mem_cons.mp hx with rfl | hx
      · omega
      · have := (ih (fun x hx => hp x (List.mem_cons_of_mem _ hx)) x hx).1
        omega
  have e := this h.nn n hn
  rw [h.sum] at e
  exact ⟨h.nn n hn, e.1⟩
theorem excess_r {m : Nat} {b : Int} {ns ts : List Int} (hm : 1 ≤ m ∧ m ≤ 6) (h : Draw (2 ^ m) b ns) (hb2 : b.natAbs < 2 ^ 1000) (ht : bitsOk ts = true) (hl : ts.length = 2 ^ m) : F_excess [.int m, eR b ns, tI ts] = .ok (eF (excZ b ns ts)) := by
  have p6 : 2 ^ m ≤ 64 := Nat.pow_le_pow_right (n := 2) (by omega) hm.2
  have := Nat.two_pow_pos m
  have e := excess_of_r (k := 1000) h.pos hb2 hb2 (by omega) h.bd ht (by rw [h.len]; omega) (by omega) (by omega)
  simp [F_excess, fs_excess, N_excess, need_bits_and_draw hm h, need_table_t ts m (by omega) hl ht, e]
theorem hybrid_r {m L : Nat} {b : Int} {ns : List Int} (hm : 1 ≤ m ∧ m ≤ 6) (hL : L ≤ m) (h : Draw (2 ^ m) b ns) (hb2 : b.natAbs < 2 ^ 1000) : F_hybrid [.int m, eR b ns, .int L] = .ok (eR (lowB (b * 2 ^ (m - L)) (sprZ ns m L)) (lowN (b * 2 ^ (m - L)) (sprZ ns m L))) := by
  have e := hybrid_of_r (ns := ns) (m := m) (L := L) (by omega) hL h.pos (pow_up hb2 (by omega))
  have n : F_need_number [.int L, .int 0, .int m] = .ok .none := need_number_i L 0 m (by omega)
  simp [F_hybrid, fs_hybrid, N_hybrid, need_bits_and_draw hm h, n, e]
end Q
end
section
set_option Elab.async false
set_option linter.all false
set_option maxRecDepth 100000
set_option maxHeartbeats 1000000
set_option exponentiation.threshold 20000
namespace Q
open PySem PySem.Spec PyProof.Rows L2 HbE Evl Dl RZ Gx Fr
theorem sumAt_bd {ns : List Int} (L j : Nat) (h : ∀ n ∈ ns, 0 ≤ n) : 0 ≤ sumAt ns L j ∧ sumAt ns L j ≤ ns.sum := by
  have main : ∀ (l : List Int) (f : Nat → Bool), (∀ n ∈ l, 0 ≤ n) → 0 ≤ (l.mapIdx fun w n => if f w = true then n else 0).sum ∧ (l.mapIdx fun w n => if f w = true then n else 0).sum ≤ l.sum := by
    intro l
    induction l with
    | nil => intro f _; simp
    | cons x l ih =>
      intro f hp
      have hx := hp x List.mem_cons_self
      have k := ih (fun w => f (w + 1)) fun y hy => hp y (List.mem_cons_of_mem _ hy)
      rw [List.mapIdx_cons, List.sum_cons, List.sum_cons]
      constructor
      · split <;> omega
      · split <;> omega
  have := main ns (fun w => decide (w % 2 ^ L = j)) h
  simpa [sumAt] using this
/-- the hybrids' bottoms and numbers -/
def hB (b : Int) (ns : List Int) (m L : Nat) : Int := lowB (b * 2 ^ (m - L)) (sprZ ns m L)
def hN (b : Int) (ns : List Int) (m L : Nat) : List Int := lowN (b * 2 ^ (m - L)) (sprZ ns m L)
theorem hpos {b : Int} {m L : Nat} (hb : 0 < b) : 0 < b * 2 ^ (m - L) := Int.mul_pos hb (Int.pow_pos (by omega))
theorem hB_pos {b : Int} {ns : List Int} {m L : Nat} (hb : 0 < b) : 0 < hB b ns m L := lowB_pos (hpos hb)
theorem hB_le {b : Int} {ns : List Int} {m L : Nat} (hb : 0 < b) : hB b ns m L ≤ b * 2 ^ m := by
  refine Int.le_trans (lowB_le (hpos hb)) (Int.mul_le_mul_of_nonneg_left ?_ (by omega))
  have e1 : ((2 : Int) ^ (m - L)) = ((2 ^ (m - L) : Nat) : Int) := by simp
  have e2 : ((2 : Int) ^ m) = ((2 ^ m : Nat) : Int) := by simp
  rw [e1, e2]
  have := Nat.pow_le_pow_right (n := 2) (by omega) (Nat.sub_le m L)
  omega
theorem hN_len {b : Int} {ns : List Int} {m L : Nat} : (hN b ns m L).length = 2 ^ m := by simp [hN, lowN, sprZ]
theorem hN_bd {N : Nat} {b : Int} {ns : List Int} {m L : Nat} (h : Draw N b ns) : Bd b (hN b ns m L) := fun n hn => by
  unfold hN lowN at hn
  obtain ⟨x, hx, rfl⟩ := List.mem_map.mp hn
  unfold sprZ at hx
  obtain ⟨w, hw, rfl⟩ := List.mem_map.mp hx
  have k := sumAt_bd L (w % 2 ^ L) h.nn
  rw [h.sum] at k
  have g := gcdL_bd (ns := sprZ ns m L) (hpos (m := m) (L := L) h.pos)
  exact ⟨Int.ediv_nonneg k.1 (by omega), Int.le_trans (Int.ediv_le_self _ k.1) k.2⟩
/-- a hybrid's chance -/
def hD (b : Int) (ns ts : List Int) (m L : Nat) : Int := dotZ (hN b ns m L) ts
def stepZ (b : Int) (ns ts : List Int) (m i : Nat) : Int × Int := nf (hD b ns ts m (i + 1) * hB b ns m i - hD b ns ts m i * hB b ns m (i + 1)) (hB b ns m (i + 1) * hB b ns m i)
theorem pow_mul_lt {b : Int} {k m : Nat} (hb : 0 < b) (h : b.natAbs < 2 ^ k) : (b * 2 ^ m).natAbs < 2 ^ (k + m) := by
  rw [Int.natAbs_mul, Int.natAbs_pow, Nat.pow_add]
  exact Nat.mul_lt_mul_of_pos_right h (Nat.two_pow_pos m)
theorem hB_lt {b : Int} {ns : List Int} {m L : Nat} (hm : m ≤ 6) (hb : 0 < b) (h : b.natAbs < 2 ^ 1000) : (hB b ns m L).natAbs < 2 ^ 1010 := by
  have h1 := @hB_le b ns m L hb
  have h2 := @hB_pos b ns m L hb
  have h3 := pow_up (pow_mul_lt (m := m) hb h) (b := 1010) (by omega)
  omega
theorem hD_bd {N : Nat} {b : Int} {ns ts : List Int} {m L : Nat} (hm : m ≤ 6) (h : Draw N b ns) (hb2 : b.natAbs < 2 ^ 1000) (ht : bitsOk ts = true) : 0 ≤ hD b ns ts m L ∧ (hD b ns ts m L).natAbs < 2 ^ 1010 := by
  have k := dot_bd (hN_bd (m := m) (L := L) h) ht
  have p6 : 2 ^ m ≤ 64 := Nat.pow_le_pow_right (n := 2) (by omega) hm
  rw [hN_len] at k
  have hb := h.pos
  refine ⟨k.1, ?_⟩
  have e : ((2 ^ m : Nat) : Int) * b ≤ 64 * b := Int.mul_le_mul_of_nonneg_right (by omega) (by omega)
  have e2 : (64 * b).natAbs < 2 ^ 1010 := by
    rw [Int.natAbs_mul]
    have : (64 : Int).natAbs = 2 ^ 6 := rfl
    rw [this]
    refine Nat.lt_of_lt_of_le (Nat.mul_lt_mul_of_pos_left hb2 (by decide)) ?_
    rw [← Nat.pow_add]
    exact Nat.pow_le_pow_right (by omega) (by omega)
  unfold hD
  omega
theorem steps_r {m : Nat} {b : Int} {ns ts : List Int} (hm : 1 ≤ m ∧ m ≤ 6) (h : Draw (2 ^ m) b ns) (hb2 : b.natAbs < 2 ^ 1000) (ht : bitsOk ts = true) (hl : ts.length = 2 ^ m) :
    F_steps [.int m, eR b ns, tI ts] = .ok (.tuple ((List.range m).map fun i => eF (stepZ b ns ts m i))) := by
  have p6 : 2 ^ m ≤ 64 := Nat.pow_le_pow_right (n := 2) (by omega) hm.2
  have rc1 : cRng ((m : Int) + 1) = true := cRng_of (by omega) (by omega)
  have rn1 : ((m : Int) + 1).toNat = m + 1 := by omega
  have rc2 : cRng (m : Int) = true := cRng_of (by omega) (by omega)
  have lc1 : lcF (fgSet 4) fYes (fCall F_chance_of (fCons (fCall F__hybrid_of (fCons (fVar 0) (fCons (fVar 1) (fCons (fVar 4) fNil)))) (fCons (fVar 2) fNil)))
      [some (.dat (.int m)), some (.dat (eR b ns)), some (.dat (tI ts)), none, none, none] ((List.range (m + 1)).map fun i : Nat => PyData.int i) = .ok ((List.range (m + 1)).map fun L => eF (nf (hD b ns ts m L) (hB b ns m L))) := by
    rw [lcF_ok (f := fun d => match d with | .int L => eF (nf (hD b ns ts m L.toNat) (hB b ns m L.toNat)) | d => d)]
    · simp [Function.comp_def]
    · intro d hd
      obtain ⟨L, hL, rfl⟩ := List.mem_map.mp hd
      have hL := List.mem_range.mp hL
      have e := hybrid_of_r (ns := ns) (m := m) (L := L) (by omega) (by omega) h.pos (pow_up hb2 (by omega))
      have c := chance_r (k := 1010) (b := hB b ns m L) (ns := hN b ns m L) (ts := ts) (c := b) (hB_pos h.pos) (hB_lt hm.2 h.pos hb2) (pow_up hb2 (by omega)) (by omega) (hN_bd h) ht (by rw [hN_len]; omega)
      unfold hB hN at c
      simp [e, c]
      exact ⟨rfl, rfl⟩
  have at' : ∀ i : Nat, i < m + 1 → atI ((List.range (m + 1)).map fun L => eF (nf (hD b ns ts m L) (hB b ns m L))) (i : Int) = some (eF (nf (hD b ns ts m i) (hB b ns m i))) := fun i hi => atI_at (by simp [hi])
  have lc2 : lcF (fgSet 5) fYes (fCall F_minus (fCons (fIx (fVarQ 3) (fOp (gI0 fun i j => .int (i + j)) (fVar 5) (fC (.int 1)))) (fCons (fIx (fVarQ 3) (fVar 5)) fNil)))
      [some (.dat (.int m)), some (.dat (eR b ns)), some (.dat (tI ts)), some (.dat (.list ((List.range (m + 1)).map fun L => eF (nf (hD b ns ts m L) (hB b ns m L))))), none, none] ((List.range m).map fun i : Nat => PyData.int i) = .ok ((List.range m).map fun i => eF (stepZ b ns ts m i)) := by
    rw [lcF_ok (f := fun d => match d with | .int i => eF (stepZ b ns ts m i.toNat) | d => d)]
    · simp [Function.comp_def]
    · intro d hd
      obtain ⟨i, hi, rfl⟩ := List.mem_map.mp hd
      have hi := List.mem_range.mp hi
      have a1 := at' (i + 1) (by omega)
      have a0 := at' i (by omega)
      have d1 := hD_bd (m := m) (L := i + 1) hm.2 h hb2 ht
      have d0 := hD_bd (m := m) (L := i) hm.2 h hb2 ht
      have b1 := hB_lt (ns := ns) (m := m) (L := i + 1) hm.2 h.pos hb2
      have b0 := hB_lt (ns := ns) (m := m) (L := i) hm.2 h.pos hb2
      have mn := minus_f (p := nf (hD b ns ts m (i + 1)) (hB b ns m (i + 1))) (q := nf (hD b ns ts m i) (hB b ns m i)) (k := 1010) (nf_pos (hB_pos h.pos)) (nf_pos (hB_pos h.pos))
        (Nat.lt_of_le_of_lt nf_le1 d1.2) (Nat.lt_of_le_of_lt nf_le2 b1) (Nat.lt_of_le_of_lt nf_le1 d0.2) (Nat.lt_of_le_of_lt nf_le2 b0) (by omega)
      rw [nf_sub (hB_pos h.pos) (hB_pos h.pos)] at mn
      have e1 : ((i : Int) + 1) = ((i + 1 : Nat) : Int) := by omega
      simp only [fgSet, fCall, fCons, fNil, fIx, fVarQ, fOp, fVar, fC, List.set_cons_succ, List.set_cons_zero, List.getElem?_cons_succ, List.getElem?_cons_zero, bind_ok, gI0_int, ofO_some, asI_int, e1, a1, a0, mn]
      simp [stepZ]
  have l1 : lim (m + 1) = true := lim_of (by omega)
  have l2 : lim m = true := lim_of (by omega)
  simp [F_steps, fs_steps, N_steps, need_bits_and_draw hm h, need_table_t ts m (by omega) hl ht, rc1, rn1, rc2, l1, l2, wipeD, lc1, lc2]
end Q
end
section
set_option Elab.async false
set_option linter.all false
set_option maxRecDepth 100000
set_option maxHeartbeats 1000000
set_option exponentiation.threshold 20000
namespace Q
open PySem PySem.Spec PyProof.Rows L2 HbE Evl Dl RZ Gx Fr
theorem ints_at {ns : List Int} {i : Nat} {d : PyData} (h : (ns.map PyData.int)[i]? = some d) : ∃ n, ns[i]? = some n ∧ d = .int n ∧ ns.take (i + 1) = ns.take i ++ [n] := by
  rw [List.getElem?_map] at h
  cases hn : ns[i]? with
  | none => rw [hn] at h; cases h
  | some n =>
    rw [hn] at h
    cases h
    exact ⟨n, rfl, rfl, by rw [List.take_succ, hn]; rfl⟩
theorem range_at {n i : Nat} {d : PyData} (h : ((List.range n).map fun i : Nat => PyData.int i)[i]? = some d) : i < n ∧ d = .int i := by
  rw [List.getElem?_map] at h
  by_cases hi : i < n
  · rw [List.getElem?_range hi] at h
    cases h
    exact ⟨hi, rfl⟩
  · rw [List.getElem?_eq_none (by simpa using hi)] at h
    cases h
theorem wb_two_i (k : Nat) (h : k ≤ 1000) : F__law_wb_two [.int k] = .ok (.int ((2 ^ k : Nat) : Int)) := by
  have rc : cRng (k : Int) = true := cRng_of (by omega) (by omega)
  simp [F__law_wb_two, fs__law_wb_two, N__law_wb_two, rc]
  refine forF_run (fun i σ => ∃ x, σ = [some (.dat (.int k)), some (.dat (.int ((2 ^ i : Nat) : Int))), x]) ⟨_, rfl⟩ (fun i d σ hd ⟨x, e⟩ => ?_) (fun σ' ⟨x, e⟩ => ?_)
  · obtain ⟨hi, rfl⟩ := range_at hd
    subst e
    have c : cMul 2 ((2 ^ i : Nat) : Int) = true := cMul_lt (a := 2) (b := 1001) (by decide) (by rw [Int.natAbs_natCast]; exact Nat.pow_lt_pow_right (by decide) (by omega)) (by omega)
    refine ⟨_, _, rfl, .inl (by simp only [fgSet, fSet, fOp, fC, fVar, List.set_cons_succ, List.set_cons_zero, List.getElem?_cons_succ, List.getElem?_cons_zero, bind_ok, gI_int, c, if_true, ofO_some]; rfl), some (.dat (.int i)), ?_⟩
    have : (2 : Int) * ((2 ^ i : Nat) : Int) = ((2 ^ (i + 1) : Nat) : Int) := by rw [Nat.pow_succ]; omega
    rw [this]
  · subst e
    simp
/-! the greatest common divisor by remainders -/
def mu (a b : Nat) : Nat := if b = 0 then 0 else 2 * (a * b).log2 + 2 + (if a < b then 1 else 0)
theorem mu_fall {a b : Nat} (hb : b ≠ 0) : mu b (a % b) < mu a b := by
  unfold mu
  rw [if_neg hb]
  by_cases h0 : a % b = 0
  · rw [if_pos h0]; omega
  · rw [if_neg h0]
    have hlt : a % b < b := Nat.mod_lt _ (by omega)
    rw [if_neg (show ¬ b < a % b by omega)]
    by_cases hab : a < b
    · rw [if_pos hab, Nat.mod_eq_of_lt hab, Nat.mul_comm b a]
      omega
    · rw [if_neg hab]
      have e := Nat.div_add_mod a b
      have hq : 1 ≤ a / b := Nat.div_pos (by omega) (by omega)
      have h2 : b * 1 ≤ b * (a / b) := Nat.mul_le_mul_left b hq
      have h1 : 2 * (a % b) ≤ a := by omega
      have p1 : b * (a % b) ≠ 0 := Nat.mul_ne_zero hb h0
      have p2 : 2 * (b * (a % b)) ≤ a * b := by
        have := Nat.mul_le_mul_left b h1
        rw [Nat.mul_left_comm] at this
        rw [Nat.mul_comm a b]
        exact this
      have l : (b * (a % b)).log2 + 1 ≤ (a * b).log2 := by
        have : 2 ^ ((b * (a % b)).log2 + 1) ≤ a * b := by
          rw [Nat.pow_succ]
          have := Nat.log2_self_le p1
          omega
        exact (Nat.le_log2 (by omega)).mpr this
      omega
theorem mu_lt {a b k : Nat} (ha : a < 2 ^ k) (hb : b < 2 ^ k) : mu a b ≤ 4 * k + 3 := by
  unfold mu
  split
  · omega
  · have : a * b < 2 ^ (2 * k) := by
      rw [Nat.two_mul, Nat.pow_add]
      exact Nat.mul_lt_mul'' ha hb
    have l := log2_le this
    split <;> omega
theorem wb_shared_i {a b : Int} {k : Nat} (ha : a.natAbs < 2 ^ k) (hb : b.natAbs < 2 ^ k) (hk : k ≤ 9000) : F__law_wb_shared [.int a, .int b] = .ok (.int ((Nat.gcd a.natAbs b.natAbs : Nat) : Int)) := by
  have e1 : ∀ x : Int, (if x < 0 then -x else x) = (x.natAbs : Int) := fun x => by split <;> omega
  have ml := mu_lt ha hb
  simp [F__law_wb_shared, fs__law_wb_shared, N__law_wb_shared, e1]
  refine whileF_run (fun m σ => ∃ p q : Nat, σ = [some (.dat (.int p)), some (.dat (.int q))] ∧ Nat.gcd p q = Nat.gcd a.natAbs b.natAbs ∧ m = mu p q) (m := mu a.natAbs b.natAbs) ⟨_, _, rfl, rfl, rfl⟩ (by omega) (fun m σ ⟨p, q, e, hg, em⟩ => ?_) (fun m' σ' ⟨p, q, e, hg, em⟩ ht => ?_)
  · subst e em
    by_cases hq : q = 0
    · subst hq
      exact .inl (by simp)
    · refine .inr ⟨by simp [hq], [some (.dat (.int q)), some (.dat (.int ((p % q : Nat) : Int)))], mu q (p % q), mu_fall hq, .inl ?_, q, p % q, rfl, ?_, rfl⟩
      · have c : cPos (p : Int) (q : Int) = true := cPos_of (by omega)
        simp [c]
      · rw [← hg, Nat.gcd_comm, ← Nat.gcd_rec, Nat.gcd_comm]
  · subst e
    by_cases hq : q = 0
    · subst hq
      rw [Nat.gcd_zero_right] at hg
      simp [hg]
    · simp [hq] at ht
theorem wb_frac_i {t b : Int} {k : Nat} (hb : 0 < b) (h1 : t.natAbs < 2 ^ k) (h2 : b.natAbs < 2 ^ k) (hk : k ≤ 9000) : F__law_wb_frac [.int t, .int b] = .ok (eF (nf t b)) := by
  have g0 : 0 < Nat.gcd t.natAbs b.natAbs := Nat.gcd_pos_of_pos_right _ (by omega)
  have gl : Nat.gcd t.natAbs b.natAbs ≤ b.natAbs := Nat.gcd_le_right _ (by omega)
  have c : ∀ x : Int, cDiv x ((Nat.gcd t.natAbs b.natAbs : Nat) : Int) = true := fun x => cDiv_lt (by omega) (b := 9000) (by rw [Int.natAbs_natCast]; exact Nat.lt_of_le_of_lt gl (pow_up h2 hk)) (by omega)
  simp [F__law_wb_frac, fs__law_wb_frac, N__law_wb_frac, wb_shared_i h1 h2 hk, c, nf, Int.gcd]
theorem abs_add_lt {x y : Int} {k : Nat} (hx : x.natAbs < 2 ^ k) (hy : y.natAbs < 2 ^ k) : (x + y).natAbs < 2 ^ (k + 1) := by
  rw [Nat.pow_succ]
  omega
theorem abs_sub_lt {x y : Int} {k : Nat} (hx : x.natAbs < 2 ^ k) (hy : y.natAbs < 2 ^ k) : (x - y).natAbs < 2 ^ (k + 1) := by
  rw [Nat.pow_succ]
  omega
theorem abs_mul_lt {x y : Int} {j k : Nat} (hx : x.natAbs < 2 ^ j) (hy : y.natAbs < 2 ^ k) : (x * y).natAbs < 2 ^ (j + k) := by
  rw [Int.natAbs_mul, Nat.pow_add]
  exact Nat.mul_lt_mul'' hx hy
theorem wb_plus_f {p q : Int × Int} {k : Nat} (hp : 0 < p.2) (hq : 0 < q.2) (h1 : p.1.natAbs < 2 ^ k) (h2 : p.2.natAbs < 2 ^ k) (h3 : q.1.natAbs < 2 ^ k) (h4 : q.2.natAbs < 2 ^ k) (hk : k ≤ 4000) :
    F__law_wb_plus [eF p, eF q] = .ok (eF (nf (p.1 * q.2 + q.1 * p.2) (p.2 * q.2))) := by
  have m1 : cMul p.1 q.2 = true := cMul_lt h1 h4
  have m2 : cMul q.1 p.2 = true := cMul_lt h3 h2
  have m3 : cMul p.2 q.2 = true := cMul_lt h2 h4
  have e := wb_frac_i (t := p.1 * q.2 + q.1 * p.2) (k := k + k + 1) (Int.mul_pos hp hq) (abs_add_lt (abs_mul_lt h1 h4) (abs_mul_lt h3 h2)) (pow_up (abs_mul_lt h2 h4) (by omega)) (by omega)
  simp [F__law_wb_plus, fs__law_wb_plus, N__law_wb_plus, m1, m2, m3, e]
theorem wb_less_f {p q : Int × Int} {k : Nat} (hp : 0 < p.2) (hq : 0 < q.2) (h1 : p.1.natAbs < 2 ^ k) (h2 : p.2.natAbs < 2 ^ k) (h3 : q.1.natAbs < 2 ^ k) (h4 : q.2.natAbs < 2 ^ k) (hk : k ≤ 4000) :
    F__law_wb_less [eF p, eF q] = .ok (eF (nf (p.1 * q.2 - q.1 * p.2) (p.2 * q.2))) := by
  have m1 : cMul p.1 q.2 = true := cMul_lt h1 h4
  have m2 : cMul q.1 p.2 = true := cMul_lt h3 h2
  have m3 : cMul p.2 q.2 = true := cMul_lt h2 h4
  have e := wb_frac_i (t := p.1 * q.2 - q.1 * p.2) (k := k + k + 1) (Int.mul_pos hp hq) (abs_sub_lt (abs_mul_lt h1 h4) (abs_mul_lt h3 h2)) (pow_up (abs_mul_lt h2 h4) (by omega)) (by omega)
  simp [F__law_wb_less, fs__law_wb_less, N__law_wb_less, m1, m2, m3, e]
theorem gcdL_snoc (b : Int) (ns : List Int) (n : Int) : gcdL b (ns ++ [n]) = ((Nat.gcd (gcdL b ns).natAbs n.natAbs : Nat) : Int) := by simp [gcdL, List.foldl_append]
theorem wb_least_r {b : Int} {ns : List Int} {k : Nat} (hb : 0 < b) (h : b.natAbs < 2 ^ k) (hn : ∀ n ∈ ns, n.natAbs < 2 ^ k) (hk : k ≤ 9000) (hl : ns.length ≤ 100000) : F__law_wb_least [eR b ns] = .ok (eR (lowB b ns) (lowN b ns)) := by
  simp [F__law_wb_least, fs__law_wb_least, N__law_wb_least]
  refine forF_run (fun i σ => ∃ x, σ = [some (.dat (eR b ns)), some (.dat (.int (gcdL b (ns.take i)))), x]) ⟨none, by simp [gcdL]⟩ (fun i d σ hd ⟨x, e⟩ => ?_) (fun σ' ⟨x, e⟩ => ?_)
  · obtain ⟨n, h1, rfl, h2⟩ := ints_at hd
    subst e
    have gb := gcdL_bd (ns := ns.take i) hb
    have s := wb_shared_i (a := gcdL b (ns.take i)) (b := n) (k := k) (by omega) (hn n (List.mem_of_getElem? h1)) hk
    refine ⟨_, _, rfl, .inl (by simp [s]; rfl), some (.dat (.int n)), ?_⟩
    rw [h2, gcdL_snoc]
  · subst e
    have g := @gcdL_bd ns b hb
    have c : ∀ y : Int, cDiv y (gcdL b ns) = true := fun y => cDiv_lt g.1 (b := 9000) (Nat.lt_of_le_of_lt (by omega) (pow_up h hk)) (by omega)
    have fin : ∀ σ0, lcF (fgSet 2) fYes (fOp (gI cDiv fun i j => PyData.int (i / j)) (fVar 2) (fVar 1)) [σ0, some (.dat (.int (gcdL b ns))), none] (ns.map .int) = .ok ((ns.map fun n => n / gcdL b ns).map PyData.int) := fun σ0 => by
      rw [lcF_ok (f := fun d => match d with | .int a => .int (a / gcdL b ns) | d => d)]
      · simp
      · intro d hd
        obtain ⟨n, hn, rfl⟩ := List.mem_map.mp hd
        simp [c]
    simp [c, lim_of hl, wipeD, fin, lowB, lowN]
theorem wb_word_i (m n : Nat) (hm : m ≤ 1000) : F__law_wb_word [.int m, .int n] = .ok (tI (wordZ n m)) := by
  have rc : cRng (m : Int) = true := cRng_of (by omega) (by omega)
  simp [F__law_wb_word, fs__law_wb_word, N__law_wb_word, rc]
  refine forF_run (fun i σ => ∃ x, σ = [some (.dat (.int m)), some (.dat (.int ((n / 2 ^ i : Nat) : Int))), some (.own ((wordZ n i).map .int)), x]) ⟨none, by simp [wordZ]⟩ (fun i d σ hd ⟨x, e⟩ => ?_) (fun σ' ⟨x, e⟩ => ?_)
  · obtain ⟨hi, rfl⟩ := range_at hd
    subst e
    have l : (wordZ n i).length = i := by simp [wordZ]
    have bl : Nat.ble i 99999 = true := Nat.ble_eq_true_of_le (by omega)
    have c1 : cPos ((n / 2 ^ i : Nat) : Int) 2 = true := cPos_of (by omega)
    have c2 : cDiv ((n / 2 ^ i : Nat) : Int) 2 = true := cDiv_lt (by omega) (b := 2) (by decide) (by omega)
    have w : (wordZ n (i + 1)).map PyData.int = (wordZ n i).map PyData.int ++ [.int ((n / 2 ^ i % 2 : Nat) : Int)] := by simp [wordZ, List.range_succ]
    have d2 : ((n / 2 ^ i : Nat) : Int) / 2 = ((n / 2 ^ (i + 1) : Nat) : Int) := by
      rw [Nat.pow_succ, ← Nat.div_div_eq_div_mul]
      omega
    refine ⟨_, [some (.dat (.int m)), some (.dat (.int ((n / 2 ^ (i + 1) : Nat) : Int))), some (.own ((wordZ n (i + 1)).map .int)), some (.dat (.int i))], rfl, .inl ?_, _, rfl⟩
    rw [w, ← d2]
    simp only [fgSet, fSeq, fApp, fSet, fOp, fC, fVar, List.set_cons_succ, List.set_cons_zero, List.getElem?_cons_succ, List.getElem?_cons_zero, bind_ok, gI_int, c1, c2, if_true, ofO_some, List.length_map, l, bl]
    rfl
  · subst e
    simp
end Q
end
section
set_option Elab.async false
set_option linter.all false
set_option maxRecDepth 100000
set_option maxHeartbeats 1000000
set_option exponentiation.threshold 20000
namespace Q
open PySem PySem.Spec PyProof.Rows L2 HbE Evl Dl RZ Gx Fr
/-! words that begin alike -/
theorem wordZ_take {n m i : Nat} (h : i ≤ m) : (wordZ n m).take i = wordZ n i := by
  unfold wordZ
  rw [← List.map_take, List.take_range, Nat.min_eq_left h]
theorem wordZ_eq {n w i : Nat} : wordZ n i = wordZ w i ↔ n % 2 ^ i = w % 2 ^ i := by
  induction i with
  | zero => simp [wordZ, Nat.mod_one]
  | succ i ih =>
    have s : ∀ x, wordZ x (i + 1) = wordZ x i ++ [((x / 2 ^ i % 2 : Nat) : Int)] := fun x => by simp [wordZ, List.range_succ]
    have m : ∀ x : Nat, x % 2 ^ (i + 1) = x % 2 ^ i + 2 ^ i * (x / 2 ^ i % 2) := fun x => by rw [Nat.pow_succ, Nat.mod_mul]
    rw [s, s, m, m]
    have l : (wordZ n i).length = (wordZ w i).length := by simp [wordZ]
    constructor
    · intro h
      have h2 := List.append_inj h l
      have h3 : n / 2 ^ i % 2 = w / 2 ^ i % 2 := by
        have := List.cons.inj h2.2
        omega
      rw [ih.mp h2.1, h3]
    · intro h
      have p := Nat.two_pow_pos i
      have a1 := Nat.mod_lt n p
      have a2 := Nat.mod_lt w p
      have b1 : n / 2 ^ i % 2 = 0 ∨ n / 2 ^ i % 2 = 1 := by omega
      have b2 : w / 2 ^ i % 2 = 0 ∨ w / 2 ^ i % 2 = 1 := by omega
      have e1 : n % 2 ^ i = w % 2 ^ i ∧ n / 2 ^ i % 2 = w / 2 ^ i % 2 := by
        rcases b1 with b1 | b1 <;> rcases b2 with b2 | b2 <;> rw [b1, b2] at h ⊢ <;> simp at h ⊢ <;> omega
      rw [ih.mpr e1.1, e1.2]
theorem eqv_ints : ∀ ns ms : List Int, PyData.eqvAll (ns.map .int) (ms.map .int) = decide (ns = ms)
  | [], [] => by simp [PyData.eqvAll]
  | [], _ :: _ => by simp [PyData.eqvAll]
  | _ :: _, [] => by simp [PyData.eqvAll]
  | n :: ns, m :: ms => by
    rw [List.map_cons, List.map_cons, PyData.eqvAll, eqv_ints ns ms]
    have : PyData.eqv (.int n) (.int m) = (n == m) := by rw [PyData.eqv]
    rw [this]
    by_cases h : n = m <;> simp [h]
theorem gEq_tI (ns ms : List Int) : gEq false (tI ns) (tI ms) = some (.bool (decide (ns = ms))) := by
  unfold gEq
  rw [shaped_of (shp_tI (n := 0) ns), shaped_of (shp_tI (n := 0) ms)]
  have : PyData.eqv (tI ns) (tI ms) = decide (ns = ms) := by
    show PyData.eqv (.tuple (ns.map .int)) (.tuple (ms.map .int)) = _
    rw [PyData.eqv]
    exact eqv_ints ns ms
  rw [this]
  rfl
theorem cutD_take (ds : List PyData) (k : Nat) (h : k ≤ ds.length) : Dl.cutD ds none (some (k : Int)) = ds.take k := by
  unfold Dl.cutD
  have e1 : HT.sIx ds.length 0 none = 0 := rfl
  have e2 : HT.sIx ds.length ds.length (some (k : Int)) = k := by
    rw [HT.sIx_nat]
    exact Nat.min_eq_left h
  rw [e1, e2]
  simp
theorem enum_at {ns : List Int} {i : Nat} {d : PyData} (h : ((ns.map PyData.int).mapIdx fun i x => PyData.tuple [.int (i : Nat), x])[i]? = some d) : ∃ n, ns[i]? = some n ∧ d = .tuple [.int i, .int n] ∧ ns.take (i + 1) = ns.take i ++ [n] ∧ i < ns.length := by
  rw [List.getElem?_mapIdx, List.getElem?_map] at h
  cases hn : ns[i]? with
  | none => rw [hn] at h; cases h
  | some n =>
    rw [hn] at h
    cases h
    exact ⟨n, rfl, rfl, by rw [List.take_succ, hn]; rfl, (List.getElem?_eq_some_iff.mp hn).1⟩
theorem wb_begin_r {b : Int} {ns : List Int} {m w i : Nat} (hm : m ≤ 1000) (hi : i ≤ m) : F__law_wb_begin [eR b ns, .int m, tI (wordZ w i)] = .ok (.int (sumAt ns i (w % 2 ^ i))) := by
  simp [F__law_wb_begin, fs__law_wb_begin, N__law_wb_begin]
  refine forF_run (fun j σ => ∃ x y, σ = [some (.dat (eR b ns)), some (.dat (.int m)), some (.dat (tI (wordZ w i))), some (.dat (.int (sumAt (ns.take j) i (w % 2 ^ i)))), x, y]) ⟨none, none, by simp [sumAt]⟩ (fun j d σ hd ⟨x, y, e⟩ => ?_) (fun σ' ⟨x, y, e⟩ => ?_)
  · obtain ⟨n, h1, rfl, h2, hj⟩ := enum_at hd
    subst e
    have ww := wb_word_i m j hm
    have lw : (wordZ w i).length = i := by simp [wordZ]
    have lj : (wordZ j m).length = m := by simp [wordZ]
    have ct : Dl.cutD ((wordZ j m).map PyData.int) none (some (i : Int)) = (wordZ j i).map PyData.int := by
      rw [cutD_take _ _ (by simp [lj]; omega), ← List.map_take, wordZ_take hi]
    have eq := gEq_tI (wordZ j i) (wordZ w i)
    have tl : (ns.take j).length = j := by simp; omega
    have sa := sumAt_snoc (ns.take j) n i (w % 2 ^ i)
    rw [tl, ← h2] at sa
    have eqi : decide (wordZ j i = wordZ w i) = decide (j % 2 ^ i = w % 2 ^ i) := by rw [decide_eq_decide]; exact wordZ_eq
    rw [eqi] at eq
    refine ⟨[some (.dat (eR b ns)), some (.dat (.int m)), some (.dat (tI (wordZ w i))), some (.dat (.int (sumAt (ns.take j) i (w % 2 ^ i)))), some (.dat (.int j)), some (.dat (.int n))], _, by simp, .inl ?_, some (.dat (.int j)), some (.dat (.int n)), rfl⟩
    by_cases hq : j % 2 ^ i = w % 2 ^ i
    · rw [if_pos hq] at sa
      simp [ww, lw, ct, eq, hq, sa]
    · rw [if_neg hq] at sa
      simp [ww, lw, ct, eq, hq, sa]
  · subst e
    simp
end Q
end
section
set_option Elab.async false
set_option linter.all false
set_option maxRecDepth 100000
set_option maxHeartbeats 1000000
set_option exponentiation.threshold 20000
namespace Q
open PySem PySem.Spec PyProof.Rows L2 HbE Evl Dl RZ Gx Fr
theorem wb_hybrid_r {m L : Nat} {b : Int} {ns : List Int} (hm : m ≤ 6) (hL : L ≤ m) (h : Draw (2 ^ m) b ns) (hb2 : b.natAbs < 2 ^ 1000) : F__law_wb_hybrid [eR b ns, .int m, .int L] = .ok (eR (hB b ns m L) (hN b ns m L)) := by
  have p6 : 2 ^ m ≤ 64 := Nat.pow_le_pow_right (n := 2) (by omega) hm
  have rc : cRng ((2 ^ m : Nat) : Int) = true := cRng_nat (by omega)
  have hl := h.len
  have e1 : ((ns.length : Nat) : Int) = ((2 ^ m : Nat) : Int) := by rw [hl]
  simp [F__law_wb_hybrid, fs__law_wb_hybrid, N__law_wb_hybrid, hl]
  rw [show ((2 : Int) ^ m) = ((2 ^ m : Nat) : Int) by simp, if_pos rc]
  simp only [bind_ok, Int.toNat_natCast]
  refine forF_run (fun i σ => ∃ x, σ = [some (.dat (eR b ns)), some (.dat (.int m)), some (.dat (.int L)), some (.own ((((List.range i).map fun w => sumAt ns L (w % 2 ^ L))).map .int)), x]) ⟨none, rfl⟩ (fun i d σ hd ⟨x, e⟩ => ?_) (fun σ' ⟨x, e⟩ => ?_)
  · obtain ⟨hi, rfl⟩ := range_at hd
    subst e
    have ww := wb_word_i m i (by omega)
    have lj : (wordZ i m).length = m := by simp [wordZ]
    have ct : Dl.cutD ((wordZ i m).map PyData.int) none (some (L : Int)) = (wordZ i L).map PyData.int := by
      rw [cutD_take _ _ (by simp [lj]; omega), ← List.map_take, wordZ_take hL]
    have bg := wb_begin_r (b := b) (ns := ns) (m := m) (w := i) (i := L) (by omega) hL
    have bl : Nat.ble i 99999 = true := Nat.ble_eq_true_of_le (by omega)
    refine ⟨_, [some (.dat (eR b ns)), some (.dat (.int m)), some (.dat (.int L)), some (.own ((((List.range (i + 1)).map fun w => sumAt ns L (w % 2 ^ L))).map .int)), some (.dat (.int i))], rfl, .inl ?_, _, rfl⟩
    simp only [fgSet, fApp, fCall, fCons, fNil, fSl, fSeqE, foNone, foSome, fVar, List.set_cons_succ, List.set_cons_zero, List.getElem?_cons_succ, List.getElem?_cons_zero, bind_ok, ww, asQ_tuple, asI_int, ct, Bool.false_eq_true, if_false, bg, List.length_map, List.length_range, bl, if_true]
    simp [List.range_succ]
  · subst e
    have t := wb_two_i (m - L) (by omega)
    have t' : ((m : Int) - L) = ((m - L : Nat) : Int) := by omega
    have c : cMul b ((2 ^ (m - L) : Nat) : Int) = true := cMul_lt (a := 1000) (b := 7) hb2 (by rw [Int.natAbs_natCast]; exact Nat.pow_lt_pow_right (by decide) (by omega)) (by omega)
    have e2 : b * ((2 ^ (m - L) : Nat) : Int) = b * 2 ^ (m - L) := by simp
    have bp := hpos (m := m) (L := L) h.pos
    have bb := pow_up (pow_mul_lt (m := m - L) h.pos hb2) (b := 1010) (by omega)
    have sp : ∀ n ∈ sprZ ns m L, n.natAbs < 2 ^ 1010 := fun n hn => by
      unfold sprZ at hn
      obtain ⟨w, hw, rfl⟩ := List.mem_map.mp hn
      have k := sumAt_bd L (w % 2 ^ L) h.nn
      rw [h.sum] at k
      exact pow_up (bd_lt k hb2) (by omega)
    have ls := wb_least_r (b := b * 2 ^ (m - L)) (ns := sprZ ns m L) (k := 1010) bp bb sp (by omega) (by simp [sprZ]; omega)
    unfold hB hN
    have es : (List.range (2 ^ m)).map (fun w => sumAt ns L (w % 2 ^ L)) = sprZ ns m L := rfl
    simp only [List.length_map, List.length_range, fRet, fCall, fCons, fNil, fTup, fOp, fIx, fVarQ, fC, fVar, fOpQ, gTuple, List.getElem?_cons_succ, List.getElem?_cons_zero, bind_ok, asI_int, atI_zero, ofO_some, gI0_int, t', t, gI_int, c, if_true, e2, es, Fw.out, List.length_cons, List.length_nil]
    simp [ls]
theorem wb_excess_r {b : Int} {ns ts : List Int} (hb : 0 < b) (hb2 : b.natAbs < 2 ^ 1010) (hn : Bd b ns ∨ ∃ c : Int, c.natAbs < 2 ^ 1010 ∧ Bd c ns) (ht : bitsOk ts = true) (hl : ns.length ≤ 64) (h0 : 0 < ts.length) (h2 : ts.length ≤ 64) :
    F__law_wb_excess [eR b ns, tI ts] = .ok (eF (excZ b ns ts)) := by
  obtain ⟨c, hc, hn⟩ : ∃ c : Int, c.natAbs < 2 ^ 1010 ∧ Bd c ns := by
    rcases hn with h | h
    · exact ⟨b, hb2, h⟩
    · exact h
  have dt := dot_bd hn ht
  have sb := sum_bits ht
  have p6 : (64 : Int) * c < 2 ^ 1016 := by
    have : c < 2 ^ 1010 := by omega
    have e : (2 : Int) ^ 1016 = 64 * 2 ^ 1010 := by rw [show (1016 : Nat) = 6 + 1010 by rfl, Int.pow_add]; rfl
    omega
  have D : (dotZ ns ts).natAbs < 2 ^ 1016 := by
    have c0 : ns = [] ∨ 0 ≤ c := by
      cases ns with
      | nil => exact .inl rfl
      | cons n ns => have := hn n List.mem_cons_self; exact .inr (by omega)
    rcases c0 with rfl | c0
    · simp [dotZ]
    · have : (ns.length : Int) * c ≤ 64 * c := Int.mul_le_mul_of_nonneg_right (by omega) c0
      omega
  have T : ts.sum.natAbs < 2 ^ 7 := by omega
  have Ln : ((ts.length : Nat) : Int).natAbs < 2 ^ 7 := by omega
  have c1 : cMul (dotZ ns ts) (ts.length : Int) = true := cMul_lt D Ln
  have c2 : cMul ts.sum b = true := cMul_lt T hb2
  have c3 : cMul b (ts.length : Int) = true := cMul_lt hb2 Ln
  have fr := wb_frac_i (t := dotZ ns ts * ts.length - ts.sum * b) (b := b * ts.length) (k := 1024) (Int.mul_pos hb (by omega)) (abs_sub_lt (abs_mul_lt D Ln) (pow_up (abs_mul_lt T hb2) (by omega))) (pow_up (abs_mul_lt hb2 Ln) (by omega)) (by omega)
  have lc : lcF (fgTup 2 (fgsCons (fgSet 3) (fgsCons (fgSet 4) fgsNil))) (fTest (fOp (gEq false) (fVar 4) (fC (.int 1)))) (fVar 3) [some (.dat (eR b ns)), some (.dat (tI ts)), none, none, none] (List.zipWith (fun x y => PyData.tuple [PyData.int x, PyData.int y]) ns ts)
      = .ok ((((List.zipWith (fun x y => PyData.tuple [PyData.int x, PyData.int y]) ns ts).filter fun d => match d with | .tuple [.int _, .int t] => t == 1 | _ => false).map fun d => match d with | .tuple [.int n, .int _] => .int n | d => d)) :=
    lcF_if fun d hd => by
      obtain ⟨x, hx, y, hy, rfl⟩ := mem_zipWith hd
      exact ⟨[some (.dat (eR b ns)), some (.dat (tI ts)), none, some (.dat (.int x)), some (.dat (.int y))], by simp, by simp, fun _ => by simp⟩
  have met : ∀ (ns ts : List Int), bitsOk ts = true → ∃ l : List Int, (((List.zipWith (fun x y => PyData.tuple [PyData.int x, PyData.int y]) ns ts).filter fun d => match d with | .tuple [.int _, .int t] => t == 1 | _ => false).map fun d => match d with | .tuple [.int n, .int _] => .int n | d => d) = l.map PyData.int ∧ l.sum = dotZ ns ts := by
    intro ns
    induction ns with
    | nil => intro ts _; exact ⟨[], rfl, by simp [dotZ]⟩
    | cons n ns ih =>
      intro ts hb
      cases ts with
      | nil => exact ⟨[], rfl, by simp [dotZ]⟩
      | cons t ts =>
        simp only [bitsOk, List.all_cons, Bool.and_eq_true, decide_eq_true_eq] at hb
        obtain ⟨l, h1, h2⟩ := ih ts hb.2
        have : t = 0 ∨ t = 1 := by omega
        rcases this with rfl | rfl
        · exact ⟨l, by simpa using h1, by rw [dotZ_cons, h2]; omega⟩
        · exact ⟨n :: l, by simpa using h1, by rw [dotZ_cons, List.sum_cons, h2]; omega⟩
  obtain ⟨l, h1, h2⟩ := met ns ts ht
  rw [h1] at lc
  have lz : lim (min ns.length ts.length) = true := lim_of (by omega)
  simp [F__law_wb_excess, fs__law_wb_excess, N__law_wb_excess, lz, wipeD, lc, h2, c1, c2, c3, fr]
  exact ⟨rfl, rfl⟩
end Q
end
section
set_option Elab.async false
set_option linter.all false
set_option maxRecDepth 100000
set_option maxHeartbeats 2000000
set_option exponentiation.threshold 20000
namespace Q
open PySem PySem.Spec PyProof.Rows L2 HbE Evl Dl RZ Gx Fr
theorem sumAt_one : ∀ {ns : List Int} {m w : Nat} {n : Int}, ns.length ≤ 2 ^ m → ns[w]? = some n → sumAt ns m w = n := by
  have main : ∀ (l : List Int) (s w : Nat) (n : Int), l[w]? = some n → (l.mapIdx fun i x => if i + s = w + s then x else 0).sum = n := by
    intro l
    induction l with
    | nil => intro s w n h; simp at h
    | cons x l ih =>
      intro s w n h
      rw [List.mapIdx_cons, List.sum_cons]
      cases w with
      | zero =>
        simp at h
        subst h
        have z : (l.mapIdx fun i x => if i + 1 + s = 0 + s then x else (0 : Int)).sum = 0 := by
          have : (l.mapIdx fun i x => if i + 1 + s = 0 + s then x else (0 : Int)) = List.replicate l.length 0 := by
            apply List.ext_getElem?
            intro j
            by_cases hj : j < l.length
            · simp [hj]
            · simp [hj]
          rw [this]
          simp
        rw [z]
        simp
      | succ w =>
        have k := ih (s + 1) w n (by simpa using h)
        have e : (l.mapIdx fun i x => if i + 1 + s = w + 1 + s then x else (0 : Int)) = l.mapIdx fun i x => if i + (s + 1) = w + (s + 1) then x else 0 := by
          apply List.ext_getElem?
          intro j
          simp only [List.getElem?_mapIdx]
          congr 1
          funext x
          have : (j + 1 + s = w + 1 + s) = (j + (s + 1) = w + (s + 1)) := by apply propext; omega
          simp only [this]
        rw [e, k, if_neg (by omega)]
        omega
  intro ns m w n hl h
  have k := main ns 0 w n h
  have hw := (List.getElem?_eq_some_iff.mp h).1
  unfold sumAt
  have e : (ns.mapIdx fun i x => if i % 2 ^ m = w then x else (0 : Int)) = ns.mapIdx fun i x => if i + 0 = w + 0 then x else 0 := by
    apply List.ext_getElem?
    intro j
    simp only [List.getElem?_mapIdx]
    by_cases hj : j < ns.length
    · rw [Nat.mod_eq_of_lt (show j < 2 ^ m by omega)]
      rfl
    · rw [List.getElem?_eq_none (by omega)]
      rfl
  rw [e, k]
theorem sprZ_whole {ns : List Int} {m : Nat} (h : ns.length = 2 ^ m) : sprZ ns m m = ns := by
  apply List.ext_getElem?
  intro w
  unfold sprZ
  rw [List.getElem?_map]
  by_cases hw : w < 2 ^ m
  · rw [List.getElem?_range hw, List.getElem?_eq_getElem (by omega)]
    show some (sumAt ns m (w % 2 ^ m)) = _
    rw [Nat.mod_eq_of_lt hw, sumAt_one (by omega) (List.getElem?_eq_getElem (show w < ns.length by omega))]
  · rw [List.getElem?_eq_none (by simpa using hw), List.getElem?_eq_none (by omega)]
    rfl
theorem hB_whole {b : Int} {ns : List Int} {m : Nat} (h : ns.length = 2 ^ m) : hB b ns m m = lowB b ns ∧ hN b ns m m = lowN b ns := by
  unfold hB hN
  rw [sprZ_whole h, Nat.sub_self, Int.pow_zero, Int.mul_one]
  exact ⟨rfl, rfl⟩
theorem sumAt_zero (ns : List Int) : sumAt ns 0 0 = ns.sum := by
  unfold sumAt
  have : (ns.mapIdx fun w n => if w % 2 ^ 0 = 0 then n else (0 : Int)) = ns := by
    apply List.ext_getElem?
    intro j
    rw [List.getElem?_mapIdx]
    simp [Nat.mod_one]
  rw [this]
theorem dotZ_rep (b : Int) : ∀ (k : Nat) (ts : List Int), ts.length = k → dotZ (List.replicate k b) ts = b * ts.sum
  | 0, [], _ => by simp [dotZ]
  | k + 1, t :: ts, h => by
    rw [List.replicate_succ, dotZ_cons, dotZ_rep b k ts (by simpa using h), List.sum_cons, Int.mul_add]
theorem sprZ_none {ns : List Int} {m : Nat} : sprZ ns m 0 = List.replicate (2 ^ m) ns.sum := by
  unfold sprZ
  simp only [Nat.pow_zero, Nat.mod_one, sumAt_zero]
  rw [List.map_const', List.length_range]
theorem nf_zero {b : Int} (hb : 0 < b) : nf 0 b = (0, 1) := by
  have e : Int.gcd 0 b = b.natAbs := by simp [Int.gcd]
  unfold nf
  rw [e]
  have : ((b.natAbs : Nat) : Int) = b := by omega
  rw [this, Int.ediv_self (by omega)]
  simp
/-- the steps so far -/
def totZ (b : Int) (ns ts : List Int) (m i : Nat) : Int × Int := nf (hD b ns ts m i * hB b ns m 0 - hD b ns ts m 0 * hB b ns m i) (hB b ns m i * hB b ns m 0)
theorem tot_zero {b : Int} {ns ts : List Int} {m : Nat} (hb : 0 < b) : totZ b ns ts m 0 = (0, 1) := by
  unfold totZ
  rw [Int.sub_self]
  exact nf_zero (Int.mul_pos (hB_pos hb) (hB_pos hb))
theorem tot_next {b : Int} {ns ts : List Int} {m i : Nat} (hb : 0 < b) : nf ((totZ b ns ts m i).1 * (stepZ b ns ts m i).2 + (stepZ b ns ts m i).1 * (totZ b ns ts m i).2) ((totZ b ns ts m i).2 * (stepZ b ns ts m i).2) = totZ b ns ts m (i + 1) := by
  unfold totZ stepZ
  have p0 := @hB_pos b ns m 0 hb
  have p1 := @hB_pos b ns m i hb
  have p2 := @hB_pos b ns m (i + 1) hb
  rw [nf_add (Int.mul_pos p1 p0) (Int.mul_pos p2 p1)]
  generalize hD b ns ts m i = d1
  generalize hD b ns ts m 0 = d0
  generalize hD b ns ts m (i + 1) = d2
  generalize hB b ns m i = b1 at *
  generalize hB b ns m 0 = b0 at *
  generalize hB b ns m (i + 1) = b2 at *
  exact nf_ext (Int.mul_pos (Int.mul_pos p1 p0) (Int.mul_pos p2 p1)) (Int.mul_pos p2 p0) (by grind)
theorem hD_cross {b : Int} {ns ts : List Int} {m L : Nat} (hb : 0 < b) : hD b ns ts m L * (b * 2 ^ (m - L)) = dotZ (sprZ ns m L) ts * hB b ns m L := low_cross (hpos hb)
theorem tot_last {b : Int} {ns ts : List Int} {m : Nat} (h : Draw (2 ^ m) b ns) (hl : ts.length = 2 ^ m) : totZ b ns ts m m = excZ b ns ts := by
  have hb := h.pos
  have p0 := @hB_pos b ns m 0 hb
  have p1 := @hB_pos b ns m m hb
  have c1 := @hD_cross b ns ts m m hb
  have c0 := @hD_cross b ns ts m 0 hb
  rw [sprZ_whole h.len, Nat.sub_self, Int.pow_zero, Int.mul_one] at c1
  rw [sprZ_none, dotZ_rep _ _ _ hl, h.sum, Nat.sub_zero] at c0
  have eL : ((ts.length : Nat) : Int) = 2 ^ m := by rw [hl]; simp
  have l0 : 0 < (ts.length : Int) := by have := Nat.two_pow_pos m; omega
  rw [← eL] at c0
  unfold totZ excZ
  generalize hD b ns ts m m = d1 at *
  generalize hD b ns ts m 0 = d0 at *
  generalize hB b ns m m = b1 at *
  generalize hB b ns m 0 = b0 at *
  generalize dotZ ns ts = D at *
  generalize ts.sum = S at *
  generalize (ts.length : Int) = L at *
  have c2 : d0 * L = S * b0 := by
    apply Int.eq_of_mul_eq_mul_right (show b ≠ 0 by omega)
    grind
  exact nf_ext (Int.mul_pos p1 p0) (Int.mul_pos hb l0) (by grind)
theorem less_step {b : Int} {ns ts : List Int} {m i : Nat} (hb : 0 < b) (hl : 0 < ts.length) : nf ((excZ (hB b ns m (i + 1)) (hN b ns m (i + 1)) ts).1 * (excZ (hB b ns m i) (hN b ns m i) ts).2 - (excZ (hB b ns m i) (hN b ns m i) ts).1 * (excZ (hB b ns m (i + 1)) (hN b ns m (i + 1)) ts).2)
    ((excZ (hB b ns m (i + 1)) (hN b ns m (i + 1)) ts).2 * (excZ (hB b ns m i) (hN b ns m i) ts).2) = stepZ b ns ts m i := by
  have p1 := @hB_pos b ns m i hb
  have p2 := @hB_pos b ns m (i + 1) hb
  have l0 : 0 < (ts.length : Int) := by omega
  unfold excZ stepZ
  rw [nf_sub (Int.mul_pos p2 l0) (Int.mul_pos p1 l0)]
  show nf ((hD b ns ts m (i + 1) * ts.length - ts.sum * hB b ns m (i + 1)) * (hB b ns m i * ts.length) - (hD b ns ts m i * ts.length - ts.sum * hB b ns m i) * (hB b ns m (i + 1) * ts.length)) _ = _
  generalize hD b ns ts m i = d1
  generalize hD b ns ts m (i + 1) = d2
  generalize hB b ns m i = b1 at *
  generalize hB b ns m (i + 1) = b2 at *
  generalize ts.sum = S at *
  generalize (ts.length : Int) = L at *
  exact nf_ext (Int.mul_pos (Int.mul_pos p2 l0) (Int.mul_pos p1 l0)) (Int.mul_pos p2 p1) (by grind)
end Q
end
section
set_option Elab.async false
set_option linter.all false
set_option maxRecDepth 100000
set_option maxHeartbeats 2000000
set_option exponentiation.threshold 20000
namespace Q
open PySem PySem.Spec PyProof.Rows L2 HbE Evl Dl RZ Gx Fr
/-- counts out of numbers -/
theorem draw_of_t {m : Nat} {cs : List Int} (hm : 1 ≤ m ∧ m ≤ 6) (hl : cs.length = 2 ^ m) (h : ∀ c ∈ cs, 0 ≤ c ∧ c ≤ 999999999) (hs : 0 < cs.sum) : F_draw_of [.int m, tI cs] = .ok (eR (lowB cs.sum cs) (lowN cs.sum cs)) := by
  have cshl : cShl 1 (m : Int) = true := cShl_ok1 (by omega) (by omega)
  have p6 : 2 ^ m ≤ 64 := Nat.pow_le_pow_right (n := 2) (by omega) hm.2
  have e1 : ((cs.length : Nat) : Int) = 2 ^ m := by rw [hl]; simp
  have al : allF (fgSet 2) fYes (fAndV (fCall F_is_short (fCons (fVar 2) fNil)) (fOp (gI0 fun i j => .bool (decide (j ≤ i))) (fVar 2) (fC (.int 0)))) [some (.dat (.int m)), some (.dat (tI cs)), none] (cs.map .int) = .ok true := by
    rw [allF_ok (f := fun d => match d with | .int c => decide (0 ≤ c) | _ => true)]
    · have : (cs.map PyData.int).all (fun d => match d with | .int c => decide (0 ≤ c) | _ => true) = true := by
        rw [List.all_map, List.all_eq_true]
        intro c hc
        exact decide_eq_true (h c hc).1
      rw [this]
    · intro d hd
      obtain ⟨c, hc, rfl⟩ := List.mem_map.mp hd
      have hh := h c hc
      simp [is_short_i, show -999999999 ≤ c by omega, hh.2]
  have sb : cs.sum ≤ 64 * 999999999 := by
    have : ∀ l : List Int, (∀ c ∈ l, 0 ≤ c ∧ c ≤ 999999999) → l.sum ≤ l.length * 999999999 := by
      intro l
      induction l with
      | nil => intro _; simp
      | cons x l ih =>
        intro hp
        have := ih fun y hy => hp y (List.mem_cons_of_mem _ hy)
        have hx := hp x List.mem_cons_self
        simp only [List.sum_cons, List.length_cons]
        omega
    have := this cs h
    omega
  have lr := lowest_row_s false (b := cs.sum) (ns := cs) hs (pow_up (a := 40) (by omega) (by omega)) (by omega)
  have e5 : sI false cs = tI cs := rfl
  rw [e5] at lr
  have nz : ¬ cs.sum = 0 := by omega
  simp [F_draw_of, fs_draw_of, N_draw_of, need_bits_i m (by omega), cshl, is_tuple_of_t, e1, wipeD, al, nz, lr]
theorem mod_sum {ns : List Int} : ∀ c ∈ ns.map (· % 999999937), 0 ≤ c ∧ c ≤ 999999999 := fun c hc => by
  obtain ⟨n, _, rfl⟩ := List.mem_map.mp hc
  have h1 := Int.emod_nonneg n (show (999999937 : Int) ≠ 0 by decide)
  have h2 := Int.emod_lt_of_pos n (show (0 : Int) < 999999937 by decide)
  omega
theorem sum_nn : ∀ {l : List Int}, (∀ c ∈ l, 0 ≤ c) → 0 ≤ l.sum
  | [], _ => by simp
  | x :: l, h => by
    have := sum_nn (l := l) fun y hy => h y (List.mem_cons_of_mem _ hy)
    have hx := h x List.mem_cons_self
    rw [List.sum_cons]
    omega
theorem right_tail {m : Nat} {b : Int} {ns ts : List Int} (hm : 1 ≤ m ∧ m ≤ 4) (h : Draw (2 ^ m) b ns) (hb2 : b.natAbs < 2 ^ 1000) (ht : bitsOk ts = true) (hl : ts.length = 2 ^ m) :
    ft__law_right [some .hat, some (.dat (.int m)), none, none, none, none, none, none, some (.dat (eR b ns)), some (.dat (tI ts)), none, none, none] = .ok (.rt (.bool true)) := by
  have p4 : 2 ^ m ≤ 16 := Nat.pow_le_pow_right (n := 2) (by omega) hm.2
  have p0 := Nat.two_pow_pos m
  have hn := h.len
  have lcm : ∀ x y z w u t, lcF (fgSet 12) fYes (fOp (gI cPos fun i j => .int (i % j)) (fVar 12) (fC (.int 999999937))) [some .hat, some (.dat (.int m)), x, y, z, w, u, t, some (.dat (eR b ns)), some (.dat (tI ts)), none, none, none] (ns.map .int) = .ok ((ns.map (· % 999999937)).map .int) := fun x y z w u t => by
    rw [lcF_ok (f := fun d => match d with | .int a => .int (a % 999999937) | d => d)]
    · simp
    · intro d hd
      obtain ⟨n, hn, rfl⟩ := List.mem_map.mp hd
      have c : cPos n 999999937 = true := cPos_of (by decide)
      simp [c]
  have lns : lim ns.length = true := lim_of (by omega)
  have cl : (ns.map (· % 999999937)).length = 2 ^ m := by rw [List.length_map, hn]
  have cn := @mod_sum ns
  have s0 := sum_nn fun c hc => (cn c hc).1
  have dr : 0 < (ns.map (· % 999999937)).sum → F_draw_of [.int m, tI (ns.map (· % 999999937))] = .ok (eR (lowB (ns.map (· % 999999937)).sum (ns.map (· % 999999937))) (lowN (ns.map (· % 999999937)).sum (ns.map (· % 999999937)))) := fun hs => draw_of_t (by omega) cl cn hs
  have sle : (ns.map (· % 999999937)).sum ≤ 64 * 999999999 := by
    have : ∀ l : List Int, (∀ c ∈ l, 0 ≤ c ∧ c ≤ 999999999) → l.sum ≤ l.length * 999999999 := by
      intro l
      induction l with
      | nil => intro _; simp
      | cons x l ih =>
        intro hp
        have := ih fun y hy => hp y (List.mem_cons_of_mem _ hy)
        have hx := hp x List.mem_cons_self
        simp only [List.sum_cons, List.length_cons]
        omega
    have := this _ cn
    omega
  have dl : 0 < (ns.map (· % 999999937)).sum → F__law_wb_least [eR (ns.map (· % 999999937)).sum (ns.map (· % 999999937))] = .ok (eR (lowB (ns.map (· % 999999937)).sum (ns.map (· % 999999937))) (lowN (ns.map (· % 999999937)).sum (ns.map (· % 999999937)))) := fun hs =>
    wb_least_r (k := 40) hs (by omega) (fun n hn => by have := cn n hn; omega) (by omega) (by omega)
  generalize hcs : ns.map (· % 999999937) = cs at *
  have gq := @gEq_self 2 true (eR (lowB cs.sum cs) (lowN cs.sum cs)) (shp_eR (n := 0) _ _) (by omega)
  have ex := excess_r (m := m) (by omega) h hb2 ht hl
  have wx := wb_excess_r h.pos (pow_up hb2 (by omega)) (.inl h.bd) ht (by omega) (by omega) (by omega)
  have gx := @gEq_self 1 true (eF (excZ b ns ts)) (shp_eF (n := 0) _) (by omega)
  have rc1 : cRng ((m : Int) + 1) = true := cRng_of (by omega) (by omega)
  have rn1 : ((m : Int) + 1).toNat = m + 1 := by omega
  have rc2 : cRng (m : Int) = true := cRng_nat (by omega)
  have lm1 : lim (m + 1) = true := lim_of (by omega)
  have lm : lim m = true := lim_of (by omega)
  -- hybrids
  have hyb : ∀ x y z w u t v, lcF (fgSet 10) fYes (fCall F__law_wb_hybrid (fCons (fVar 8) (fCons (fVar 1) (fCons (fVar 10) fNil)))) [some .hat, some (.dat (.int m)), x, y, z, w, u, t, some (.dat (eR b ns)), some (.dat (tI ts)), none, none, v] ((List.range (m + 1)).map fun i : Nat => PyData.int i)
      = .ok ((List.range (m + 1)).map fun L => eR (hB b ns m L) (hN b ns m L)) := fun x y z w u t v => by
    rw [lcF_ok (f := fun d => match d with | .int L => eR (hB b ns m L.toNat) (hN b ns m L.toNat) | d => d)]
    · simp [Function.comp_def]
    · intro d hd
      obtain ⟨L, hL, rfl⟩ := List.mem_map.mp hd
      have hL := List.mem_range.mp hL
      have e := wb_hybrid_r (m := m) (L := L) (by omega) (by omega) h hb2
      simp [e]
  have hyp : ∀ x y z w u t v, lcF (fgSet 10) fYes (fCall F_hybrid (fCons (fVar 1) (fCons (fVar 8) (fCons (fVar 10) fNil)))) [some .hat, some (.dat (.int m)), x, y, z, w, u, t, some (.dat (eR b ns)), some (.dat (tI ts)), none, none, v] ((List.range (m + 1)).map fun i : Nat => PyData.int i)
      = .ok ((List.range (m + 1)).map fun L => eR (hB b ns m L) (hN b ns m L)) := fun x y z w u t v => by
    rw [lcF_ok (f := fun d => match d with | .int L => eR (hB b ns m L.toNat) (hN b ns m L.toNat) | d => d)]
    · simp [Function.comp_def]
    · intro d hd
      obtain ⟨L, hL, rfl⟩ := List.mem_map.mp hd
      have hL := List.mem_range.mp hL
      have e := hybrid_r (m := m) (L := L) (by omega) (by omega) h hb2
      simp [e]
      exact ⟨rfl, rfl⟩
  have gh := @gEq_self 3 true (.list ((List.range (m + 1)).map fun L => eR (hB b ns m L) (hN b ns m L))) (shp_lst (n := 2) (shp_map fun L _ => shp_eR (n := 0) _ _)) (by omega)
  have ath : ∀ i : Nat, i < m + 1 → atI ((List.range (m + 1)).map fun L => eR (hB b ns m L) (hN b ns m L)) (i : Int) = some (eR (hB b ns m i) (hN b ns m i)) := fun i hi => atI_at (by simp [hi])
  have least := wb_least_r (b := b) (ns := ns) (k := 1000) h.pos hb2 (fun n hn => bd_lt (h.bd n hn) hb2) (by omega) (by omega)
  have wh := hB_whole (b := b) hn
  have gl := @gEq_self 2 true (eR (lowB b ns) (lowN b ns)) (shp_eR (n := 0) _ _) (by omega)
  have athm := ath m (by omega)
  rw [wh.1, wh.2] at athm
  -- chances
  have chn : ∀ x y z w u t v, lcF (fgSet 11) fYes (fCall F__law_wb_excess (fCons (fVar 11) (fCons (fVar 9) fNil))) [some .hat, some (.dat (.int m)), x, y, z, w, u, t, some (.dat (eR b ns)), some (.dat (tI ts)), none, none, v] ((List.range (m + 1)).map fun L => eR (hB b ns m L) (hN b ns m L))
      = .ok ((List.range (m + 1)).map fun L => eF (excZ (hB b ns m L) (hN b ns m L) ts)) := fun x y z w u t v => by
    have tr : ∀ L : Nat, F__law_wb_excess [eR (hB b ns m L) (hN b ns m L), tI ts] = .ok (eF (excZ (hB b ns m L) (hN b ns m L) ts)) := fun L => wb_excess_r (hB_pos h.pos) (hB_lt (by omega) h.pos hb2) (.inr ⟨b, pow_up hb2 (by omega), hN_bd h⟩) ht (by rw [hN_len]; omega) (by omega) (by omega)
    generalize List.range (m + 1) = r
    induction r with
    | nil => rfl
    | cons L r ih =>
      rw [List.map_cons, List.map_cons]
      unfold lcF
      simp only [fgSet, fYes, fCall, fCons, fNil, fVar, List.set_cons_succ, List.set_cons_zero, List.getElem?_cons_succ, List.getElem?_cons_zero, bind_ok, if_true, tr L, ih]
  have atc : ∀ i : Nat, i < m + 1 → atI ((List.range (m + 1)).map fun L => eF (excZ (hB b ns m L) (hN b ns m L) ts)) (i : Int) = some (eF (excZ (hB b ns m i) (hN b ns m i) ts)) := fun i hi => atI_at (by simp [hi])
  have xlt : ∀ i : Nat, (excZ (hB b ns m i) (hN b ns m i) ts).1.natAbs < 2 ^ 1100 ∧ (excZ (hB b ns m i) (hN b ns m i) ts).2.natAbs < 2 ^ 1100 := fun i => by
    have d := hD_bd (m := m) (L := i) (by omega) h hb2 ht
    have bl := hB_lt (ns := ns) (m := m) (L := i) (by omega) h.pos hb2
    have sb := sum_bits ht
    have T : ts.sum.natAbs < 2 ^ 7 := by omega
    have Ln : ((ts.length : Nat) : Int).natAbs < 2 ^ 7 := by omega
    unfold excZ
    exact ⟨Nat.lt_of_le_of_lt nf_le1 (pow_up (abs_sub_lt (abs_mul_lt d.2 Ln) (pow_up (abs_mul_lt T bl) (by omega))) (by omega)), Nat.lt_of_le_of_lt nf_le2 (pow_up (abs_mul_lt bl Ln) (by omega))⟩
  have xpos : ∀ i : Nat, 0 < (excZ (hB b ns m i) (hN b ns m i) ts).2 := fun i => nf_pos (Int.mul_pos (hB_pos h.pos) (by omega))
  have due : ∀ x y z w u t v q, lcF (fgSet 10) fYes (fCall F__law_wb_less (fCons (fIx (fVarQ 4) (fOp (gI0 fun i j => .int (i + j)) (fVar 10) (fC (.int 1)))) (fCons (fIx (fVarQ 4) (fVar 10)) fNil)))
      [some .hat, some (.dat (.int m)), x, y, some (.dat (.list ((List.range (m + 1)).map fun L => eF (excZ (hB b ns m L) (hN b ns m L) ts)))), z, w, u, t, q, none, none, v] ((List.range m).map fun i : Nat => PyData.int i) = .ok ((List.range m).map fun i => eF (stepZ b ns ts m i)) := fun x y z w u t v q => by
    rw [lcF_ok (f := fun d => match d with | .int i => eF (stepZ b ns ts m i.toNat) | d => d)]
    · simp [Function.comp_def]
    · intro d hd
      obtain ⟨i, hi, rfl⟩ := List.mem_map.mp hd
      have hi := List.mem_range.mp hi
      have a1 := atc (i + 1) (by omega)
      have a0 := atc i (by omega)
      have le := wb_less_f (p := excZ (hB b ns m (i + 1)) (hN b ns m (i + 1)) ts) (q := excZ (hB b ns m i) (hN b ns m i) ts) (k := 1100) (xpos _) (xpos _) (xlt _).1 (xlt _).2 (xlt _).1 (xlt _).2 (by omega)
      rw [less_step h.pos (by omega)] at le
      have e1 : ((i : Int) + 1) = ((i + 1 : Nat) : Int) := by omega
      simp only [fgSet, fCall, fCons, fNil, fIx, fVarQ, fOp, fVar, fC, List.set_cons_succ, List.set_cons_zero, List.getElem?_cons_succ, List.getElem?_cons_zero, bind_ok, gI0_int, ofO_some, asI_int, e1, a1, a0, le, Int.toNat_natCast]
  have st := steps_r (m := m) (by omega) h hb2 ht hl
  have gs := @gEq_self 2 false (.tuple ((List.range m).map fun i => eF (stepZ b ns ts m i))) (shp_tup (n := 1) (shp_map fun i _ => shp_eF (n := 0) _)) (by omega)
  have gt := @gEq_self 1 false (eF (excZ b ns ts)) (shp_eF (n := 0) _) (by omega)
  have lz2 : ∀ L : Nat, lim (m + 1) = true := fun _ => lm1
  unfold ft__law_right
  refine (fSeq_nx (σ' := [some .hat, some (.dat (.int m)), some (.dat (tI cs)), none, none, none, none, none, some (.dat (eR b ns)), some (.dat (tI ts)), none, none, none]) (by simp [lns, wipeD, lcm, hcs])).trans ?_
  refine (fSeq_nx (σ' := [some .hat, some (.dat (.int m)), some (.dat (tI cs)), none, none, none, none, none, some (.dat (eR b ns)), some (.dat (tI ts)), none, none, none]) (by
    by_cases hs : 0 < cs.sum
    · simp [hs, dr hs, dl hs, gq]
    · simp [hs])).trans ?_
  refine (fSeq_nx (σ' := [some .hat, some (.dat (.int m)), some (.dat (tI cs)), none, none, none, none, none, some (.dat (eR b ns)), some (.dat (tI ts)), none, none, none]) (by simp [ex, wx, gx])).trans ?_
  refine (fSeq_nx (σ' := [some .hat, some (.dat (.int m)), some (.dat (tI cs)), some (.dat (.list ((List.range (m + 1)).map fun L => eR (hB b ns m L) (hN b ns m L)))), none, none, none, none, some (.dat (eR b ns)), some (.dat (tI ts)), none, none, none]) (by simp [rc1, rn1, lm1, wipeD, hyb])).trans ?_
  refine (fSeq_nx (σ' := [some .hat, some (.dat (.int m)), some (.dat (tI cs)), some (.dat (.list ((List.range (m + 1)).map fun L => eR (hB b ns m L) (hN b ns m L)))), none, none, none, none, some (.dat (eR b ns)), some (.dat (tI ts)), none, none, none]) (by simp [rc1, rn1, lm1, wipeD, hyp, gh, athm, least, gl])).trans ?_
  refine (fSeq_nx (σ' := [some .hat, some (.dat (.int m)), some (.dat (tI cs)), some (.dat (.list ((List.range (m + 1)).map fun L => eR (hB b ns m L) (hN b ns m L)))), some (.dat (.list ((List.range (m + 1)).map fun L => eF (excZ (hB b ns m L) (hN b ns m L) ts)))), none, none, none, some (.dat (eR b ns)), some (.dat (tI ts)), none, none, none]) (by simp [lm1, wipeD, chn])).trans ?_
  refine (fSeq_nx (σ' := [some .hat, some (.dat (.int m)), some (.dat (tI cs)), some (.dat (.list ((List.range (m + 1)).map fun L => eR (hB b ns m L) (hN b ns m L)))), some (.dat (.list ((List.range (m + 1)).map fun L => eF (excZ (hB b ns m L) (hN b ns m L) ts)))), some (.dat (.tuple ((List.range m).map fun i => eF (stepZ b ns ts m i)))), none, none, some (.dat (eR b ns)), some (.dat (tI ts)), none, none, none]) (by simp [rc2, lm, wipeD, due])).trans ?_
  refine (fSeq_nx (σ' := [some .hat, some (.dat (.int m)), some (.dat (tI cs)), some (.dat (.list ((List.range (m + 1)).map fun L => eR (hB b ns m L) (hN b ns m L)))), some (.dat (.list ((List.range (m + 1)).map fun L => eF (excZ (hB b ns m L) (hN b ns m L) ts)))), some (.dat (.tuple ((List.range m).map fun i => eF (stepZ b ns ts m i)))), some (.dat (eF (0, 1))), none, some (.dat (eR b ns)), some (.dat (tI ts)), none, none, none]) (by simp)).trans ?_
  have tlt : ∀ i : Nat, (totZ b ns ts m i).1.natAbs < 2 ^ 2100 ∧ (totZ b ns ts m i).2.natAbs < 2 ^ 2100 ∧ 0 < (totZ b ns ts m i).2 := fun i => by
    have d := hD_bd (m := m) (L := i) (by omega) h hb2 ht
    have d0 := hD_bd (m := m) (L := 0) (by omega) h hb2 ht
    have bl := hB_lt (ns := ns) (m := m) (L := i) (by omega) h.pos hb2
    have bl0 := hB_lt (ns := ns) (m := m) (L := 0) (by omega) h.pos hb2
    unfold totZ
    exact ⟨Nat.lt_of_le_of_lt nf_le1 (pow_up (abs_sub_lt (abs_mul_lt d.2 bl0) (abs_mul_lt d0.2 bl)) (by omega)), Nat.lt_of_le_of_lt nf_le2 (pow_up (abs_mul_lt bl bl0) (by omega)), nf_pos (Int.mul_pos (hB_pos h.pos) (hB_pos h.pos))⟩
  have slt : ∀ i : Nat, (stepZ b ns ts m i).1.natAbs < 2 ^ 2100 ∧ (stepZ b ns ts m i).2.natAbs < 2 ^ 2100 ∧ 0 < (stepZ b ns ts m i).2 := fun i => by
    have d := hD_bd (m := m) (L := i) (by omega) h hb2 ht
    have d0 := hD_bd (m := m) (L := i + 1) (by omega) h hb2 ht
    have bl := hB_lt (ns := ns) (m := m) (L := i) (by omega) h.pos hb2
    have bl0 := hB_lt (ns := ns) (m := m) (L := i + 1) (by omega) h.pos hb2
    unfold stepZ
    exact ⟨Nat.lt_of_le_of_lt nf_le1 (pow_up (abs_sub_lt (abs_mul_lt d0.2 bl) (abs_mul_lt d.2 bl0)) (by omega)), Nat.lt_of_le_of_lt nf_le2 (pow_up (abs_mul_lt bl0 bl) (by omega)), nf_pos (Int.mul_pos (hB_pos h.pos) (hB_pos h.pos))⟩
  obtain ⟨σ', h1, h2⟩ := forF_inv (g := fgSet 7) (b := fSet 6 (fCall F__law_wb_plus (fCons (fVar 6) (fCons (fVar 7) fNil)))) (ds := (List.range m).map fun i => eF (stepZ b ns ts m i))
    (fun i σ => ∃ x, σ = [some .hat, some (.dat (.int m)), some (.dat (tI cs)), some (.dat (.list ((List.range (m + 1)).map fun L => eR (hB b ns m L) (hN b ns m L)))), some (.dat (.list ((List.range (m + 1)).map fun L => eF (excZ (hB b ns m L) (hN b ns m L) ts)))), some (.dat (.tuple ((List.range m).map fun i => eF (stepZ b ns ts m i)))), some (.dat (eF (totZ b ns ts m i))), x, some (.dat (eR b ns)), some (.dat (tI ts)), none, none, none])
    (fun i d σ hd ⟨x, e⟩ => by
      rw [List.getElem?_map] at hd
      by_cases hi : i < m
      · rw [List.getElem?_range hi] at hd
        cases hd
        subst e
        have pl := wb_plus_f (p := totZ b ns ts m i) (q := stepZ b ns ts m i) (k := 2100) (tlt i).2.2 (slt i).2.2 (tlt i).1 (tlt i).2.1 (slt i).1 (slt i).2.1 (by omega)
        rw [tot_next h.pos] at pl
        refine ⟨_, _, rfl, .inl (by simp only [fgSet, fSet, fCall, fCons, fNil, fVar, List.set_cons_succ, List.set_cons_zero, List.getElem?_cons_succ, List.getElem?_cons_zero, bind_ok, pl]), some (.dat (eF (stepZ b ns ts m i))), rfl⟩
      · rw [List.getElem?_eq_none (by simpa using hi)] at hd
        cases hd)
    (σ := [some .hat, some (.dat (.int m)), some (.dat (tI cs)), some (.dat (.list ((List.range (m + 1)).map fun L => eR (hB b ns m L) (hN b ns m L)))), some (.dat (.list ((List.range (m + 1)).map fun L => eF (excZ (hB b ns m L) (hN b ns m L) ts)))), some (.dat (.tuple ((List.range m).map fun i => eF (stepZ b ns ts m i)))), some (.dat (eF (0, 1))), none, some (.dat (eR b ns)), some (.dat (tI ts)), none, none, none]) ⟨none, by rw [tot_zero h.pos]⟩
  rw [List.length_map, List.length_range] at h2
  obtain ⟨x, rfl⟩ := h2
  rw [tot_last h hl] at h1
  refine (fSeq_nx (σ' := _) (by simp only [fFor, fItS, fVar, List.getElem?_cons_succ, List.getElem?_cons_zero, bind_ok, asQ_tuple]; exact h1)).trans ?_
  simp only [fRet, fAndV, fOp, fCall, fCons, fNil, fVar, List.getElem?_cons_succ, List.getElem?_cons_zero, bind_ok, st, gs, ofO_some, asB_bool, Bool.not_false, if_true, wx, gt]
end Q
end
section
set_option Elab.async false
set_option linter.all false
set_option maxRecDepth 100000
set_option maxHeartbeats 1000000
namespace HbH
open PySem PySem.Spec PyProof.Rows L2 HbE
/-- a number below the total, out of the drawer -/
def spUp : Sp := fun vs H Q _ => ∃ (a : Addr) (o : HO) (t : Int), vs = [.ref a, .int t] ∧ H a = some o ∧ Dl.Hat o ∧ 0 < t ∧ t.natAbs.log2 < 9000 ∧
  ∀ (r : Int) o', 0 ≤ r → r < t → Dl.Hat o' → Q (.int r) (upd H a o')
theorem upd_upd2 {H : Hp} {a : Addr} {o o' : HO} : upd (upd H a o) a o' = upd H a o' := by
  funext b
  unfold upd
  split <;> rfl
end HbH
open PySem PySem.Spec PyProof.Rows L2 HbE HbH Dl
local macro_rules | `(tactic| lcg_sub) => `(tactic| first
  | ((with_reducible show PE _ (.Constant _ _ _) _); first | exact pe_int | exact pe_str | exact pe_non | exact pe_bl)
  | ((with_reducible show PE _ (.Name _ _) _); first | exact pv 0 | exact pv 1 | exact pv 2 | exact pv 3 | exact pv 4 | exact pv 5 | exact pv 6 | exact pv 7 | exact pv 8)
  | ((with_reducible show PE _ (.BinOp _ .Add _ _) _); first | exact pe_op op_add (by lcg_sub) (by lcg_sub))
  | ((with_reducible show PE _ (.BinOp _ .Sub _ _) _); first | exact pe_op op_sub (by lcg_sub) (by lcg_sub))
  | ((with_reducible show PE _ (.BinOp _ .Mult _ _) _); first | exact pe_op op_mulE (by lcg_sub) (by lcg_sub))
  | ((with_reducible show PE _ (.BinOp _ .Mod _ _) _); first | exact pe_op op_mod (by lcg_sub) (by lcg_sub))
  | ((with_reducible show PE _ (.BinOp _ .FloorDiv _ _) _); first | exact pe_op op_fdivW (by lcg_sub) (by lcg_sub))
  | ((with_reducible show PE _ (.BinOp _ .Pow _ _) _); first | exact pe_op op_powB (by lcg_sub) (by lcg_sub))
  | ((with_reducible show PE _ (.Subscript (.Name "script" _) _ _) _); exact pe_ix ix_list (by lcg_sub) (by lcg_sub) (fun _ _ => rfl))
  | ((with_reducible show PE _ (.Subscript _ _ _) _); first | exact pe_ix ix_any (by lcg_sub) (by lcg_sub) (fun _ _ => rfl))
  | ((with_reducible show PE _ (.UnaryOp .USub _ _) _); first | exact pe_un un_neg (by lcg_sub))
  | ((with_reducible show PE _ (.List _ _) _); first | exact pe_lst (by keq_rows))
  | ((with_reducible show PE _ (.IfExp _ _ _ _) _); first | exact pe_ifExp (by lcg_off) (by lcg_sub) (by lcg_sub))
  | ((with_reducible show PE _ (.Compare _ [.Lt] _ _) _); first | exact pe_cmpR op_lt (by lcg_sub) (by lcg_sub) (nomark _))
  | ((with_reducible show PE _ (.Call (.Name "len" _) _ _ _) _); first | exact pe_callB call_len_seq (by rfl) (by assumption) PySem.boot_len (by keq_rows))
  | ((with_reducible show PE _ (.Call (.Name "int" _) _ _ _) _); first | exact pe_callTy call_intA (by rfl) (by assumption) Dl.b_int (by keq_rows))
  | ((with_reducible show PE _ (.Call (.Name "abs" _) _ _ _) _); first | exact pe_callB call_abs (by rfl) (by assumption) Dl.b_abs (by keq_rows))
  | ((with_reducible show PE _ (.Call (.Name "max" _) _ _ _) _); first | exact pe_callB (call_max2 rfl) (by rfl) (by assumption) Dl.b_max (by keq_rows)))
local macro_rules | `(tactic| keq_rows) => `(tactic| first | ((with_reducible show PA _ [] _); exact pa_nil) | ((with_reducible show PA _ (_ :: _) _); exact pa_cons (by lcg_sub) (by keq_rows)))
local macro_rules | `(tactic| lcg_off) => `(tactic| first
  | ((with_reducible show PT _ (.Compare _ [.Gt] _ _) _); exact pt_cmpR op_gt (by lcg_sub) (by lcg_sub) (nomark _))
  | ((with_reducible show PT _ (.Compare _ [.Lt] _ _) _); exact pt_cmpR op_lt (by lcg_sub) (by lcg_sub) (nomark _)))
local macro_rules | `(tactic| keq_hits) => `(tactic| first
  | ((with_reducible show PS _ (.Return (some _) _) _); exact ps_ret (by lcg_sub))
  | ((with_reducible show PS _ (.If _ _ _ _) _); exact ps_if (by lcg_off) (by lcg_src) (by lcg_src))
  | ((with_reducible show PS _ (.Assign [.Name _ _] _ _) _); first
    | exact ps_set (i := 2) (by assumption) rfl (.inl rfl) (by lcg_sub)
    | exact ps_set (i := 3) (by assumption) rfl (.inl rfl) (by lcg_sub)
    | exact ps_set (i := 4) (by assumption) rfl (.inl rfl) (by lcg_sub)
    | exact ps_set (i := 5) (by assumption) rfl (.inl rfl) (by lcg_sub))
  | ((with_reducible show PS _ (.Assign [.Subscript _ _ _] _ _) _); exact ps_asg (by lcg_sub) (pg_sub (by lcg_sub) (by lcg_sub) set_A)))
local macro_rules | `(tactic| lcg_src) => `(tactic| first
  | ((with_reducible show PSs _ [] _); exact pss_nil)
  | ((with_reducible show PSs _ [_] _); exact pss_one (by keq_hits))
  | ((with_reducible show PSs _ (_ :: _) _); exact pss_cons (by keq_hits) (by lcg_src)))
namespace Q
section
variable {P : Program} {w : World} {K : PySem.W.Frag} {mg : Str → Option Value} {base : Heap} {Ps : List Addr}
theorem ok_up {f : Addr} {fd : FuncData} {k : Nat} (F : Fun K "_law_wb_up" "_law_wb_up" s__law_wb_up f fd) (bi : mg "int" = none) : FnOk P w K mg base CX0 (k + 1) f fd ["hat", "total"] spUp := by
  refine F.ok sc__law_wb_up (fun vs H Q E h => ?_) (fun cdv A outer s H vs Q E hr h => ?_)
  · obtain ⟨a, o, t, rfl, _⟩ := h
    rfl
  · obtain ⟨a, o, t, rfl, ha, ⟨g, s0, c, rfl⟩, h0, h1, q⟩ := h
    have nd := sc__law_wb_up.nd
    refine ⟨_, pss_cons (by keq_hits) (by lcg_src), ?_⟩
    have l0 : sq H a = some [.int g, .int s0, .int c] := sq_lst ha
    simp [tSeq, tIfS, tTest, tOp, tUn, rU, tVar, tC, tCB, tCons, tNil, rI0, rI, tAsg, gName, gSub, tRet, L2.start, tNext, tLst, tTup, tIf, rIxA, rIntA, rSetA, sq_updL, sq_updT, upd_same, upd_upd2, atI, ixN, l0, ha]
    split
    · exact ⟨h0, ⟨h0, h1⟩, q _ _ (Int.emod_nonneg _ (by omega)) (Int.emod_lt_of_pos _ h0) ⟨_, _, _, rfl⟩⟩
    · exact ⟨mulL (by decide), mulL (modL _ (by decide) (by decide)), mulL (by decide), mulR (by decide), ⟨by decide, by decide +kernel⟩, h0, q _ _ (Int.emod_nonneg _ (by omega)) (Int.emod_lt_of_pos _ h0) ⟨_, _, _, rfl⟩⟩
theorem ok_hat {f : Addr} {fd : FuncData} {k : Nat} (F : Fun K "_law_wb_hat" "_law_wb_hat" s__law_wb_hat f fd) (bi : mg "int" = none) (bl : mg "len" = none) (ba : mg "abs" = none) (bm : mg "max" = none) : FnOk P w K mg base CX0 (k + 1) f fd ["script", "spot"] (spHatD K) := by
  refine F.ok sc__law_wb_hat (fun vs H Q E h => ?_) (fun cdv A outer s H vs Q E hr h => ?_)
  · obtain ⟨a, ns, i, rfl, _⟩ := h
    rfl
  · obtain ⟨a, ns, i, rfl, ha, hi, q⟩ := h
    have nd := sc__law_wb_hat.nd
    refine ⟨_, pss_cons (by keq_hits) (by lcg_src), ?_⟩
    simp [tSeq, tIfS, tTest, tOp, tUn, rU, tVar, tC, tCB, tCons, tNil, rI0, rI, tAsg, gName, gSub, tRet, L2.start, tNext, tLst, tTup, tIf, rIxA, rIntA, rSetA, sq_updL, sq_updT, upd_same, upd_upd2, atI, ixN]
    refine ⟨ns.map V.int, .inl ha, ?_⟩
    simp only [List.length_map]
    split
    · rename_i hlt
      refine ⟨a, ns.map V.int, i, .int ns[i], rfl, rfl, ha, atI_nat (by simp [hlt]), ?_⟩
      repeat (first | refine And.intro (by first | exact ⟨by decide, by decide +kernel⟩ | exact mulL (by decide) | exact mulR (by decide) | exact Or.inr (show (_ : Int) ≤ _ by decide +kernel) | exact (by decide : 3 ≤ sizeLine)) ?_ | refine ⟨_, _, ⟨rfl, rfl⟩, ?_⟩)
      exact fun p hp => q _ _ hp ⟨_, _, _, rfl⟩
    · repeat (first | refine And.intro (by first | exact ⟨by decide, by decide +kernel⟩ | exact mulL (by decide) | exact mulR (by decide) | exact Or.inr (show (_ : Int) ≤ _ by decide +kernel) | exact (by decide : 3 ≤ sizeLine)) ?_ | refine ⟨_, _, ⟨rfl, rfl⟩, ?_⟩)
      exact fun p hp => q _ _ hp ⟨_, _, _, rfl⟩
/-- .. over data -/
def SD_up : DSp := fun ws Q => ∃ t : Int, ws = [.hat, .dat (.int t)] ∧ 0 < t ∧ t.natAbs.log2 < 9000 ∧ ∀ r : Int, 0 ≤ r → r < t → Q (.int r)
theorem up_data {vs : List V} {H : Hp} {Q : VK} {E : XK} (h : spOf K Ps SD_up vs H Q E) : spUp vs H Q E := by
  obtain ⟨M, hs, ws, Qd, wf, p, ⟨t, rfl, h0, h1, q⟩, k⟩ := h
  cases p with
  | cons p1 p2 =>
    cases p2 with
    | cons p2 p3 =>
      cases p3
      obtain ⟨a, rfl, ha⟩ := p1
      cases p2
      obtain ⟨mA, o, ho, hat⟩ := wf.hat a ha
      refine ⟨a, o, t, rfl, ho, hat, h0, h1, fun r o' r0 r1 hat' => k _ _ _ (q r r0 r1) ?_ (.int r)⟩
      refine ⟨fun b u e n1 n2 => by rw [upd_ne (show b ≠ a from fun z => n1 (by rw [z]; exact ha))]; exact e, fun b hb e => ?_, fun b hb e => ?_⟩
      · by_cases z : b = a
        · rw [z, upd_same]; exact ⟨_, rfl, hat'⟩
        · rw [upd_ne z]; exact e
      · obtain ⟨_, _, _, e2⟩ := hat
        obtain ⟨ps, e1, e3⟩ := e
        have : b ≠ a := fun z => by rw [z, ho, e2] at e1; cases e1
        exact ⟨ps, by rw [upd_ne this]; exact e1, e3⟩
end
end Q
end
section
set_option Elab.async false
set_option linter.all false
set_option maxRecDepth 100000
set_option maxHeartbeats 2000000
set_option exponentiation.threshold 20000
namespace Q
open PySem PySem.Spec PyProof.Rows L2 HbE Evl Dl RZ Gx Fr
theorem lcD_any {g : DG} {te : DE} {σ0 : Sd} {Q : List PyData → Prop} {P : PyData → Prop} : ∀ {ds acc : List PyData}, (∀ d ∈ ds, ∀ N : PyData → Prop, (∀ y, P y → N y) → g d σ0 fun σ2 => te σ2 N) → (∀ ys, ys.length = ds.length → (∀ y ∈ ys, P y) → Q (acc ++ ys)) → lcD g dYes te σ0 Q ds acc
  | [], acc, _, q => by
    have := q [] rfl (fun _ h => by cases h)
    rw [List.append_nil] at this
    exact this
  | d :: ds, acc, hs, q => by
    unfold lcD
    have h := hs d List.mem_cons_self (fun y => lcD g dYes te σ0 Q ds (acc ++ [y])) fun y hy => lcD_any (P := P) (fun d hd => hs d (List.mem_cons_of_mem _ hd)) fun ys hl hp => by
      have := q (y :: ys) (by simp [hl]) fun z hz => by
        rcases List.mem_cons.mp hz with rfl | hz
        · exact hy
        · exact hp z hz
      rw [List.append_assoc]
      exact this
    simpa [dYes] using h
def SD_of : DSp := fun ws Q => ∃ ds, ws = [.hat, .dat (.list ds)] ∧ ds ≠ [] ∧ ds.length ≤ 100000 ∧ ∀ d ∈ ds, Q d
theorem len_of {ws : List WD} {Q : PyData → Prop} (h : SD_of ws Q) : ws.length = 2 := by
  obtain ⟨_, rfl, _⟩ := h
  rfl
theorem pu_of (ws : List WD) (Qd : PyData → Prop) (h : SD_of ws Qd) : db__law_wb_of SD_up { nx := fun _ => Qd .none, rt := Qd } (startD N__law_wb_of.length ws) := by
  obtain ⟨ds, rfl, h0, h1, q⟩ := h
  have l0 : 0 < ds.length := List.length_pos_iff.mpr h0
  simp [db__law_wb_of, N__law_wb_of, dRet, dIx, dVarQ, dCall, dCons, dHat, dD, dOpQ, fLen, dNil, SD_up, h0]
  refine ⟨by omega, Nat.lt_of_le_of_lt (log2_le (z := ds.length) (c := 17) (by omega)) (by omega), fun r r0 r1 => ?_⟩
  obtain ⟨n, rfl⟩ : ∃ n : Nat, r = n := ⟨r.toNat, by omega⟩
  have hn : n < ds.length := by omega
  rw [atI_at (List.getElem?_eq_getElem hn)]
  exact q _ (List.getElem_mem hn)
def SD_bits : DSp := fun ws Q => ∃ n : Nat, ws = [.hat, .dat (.int n)] ∧ 2 ≤ n ∧ n ≤ 1000 ∧ ∀ ts : List Int, ts.length = n → bitsOk ts = true → Q (tI ts)
theorem len_bits {ws : List WD} {Q : PyData → Prop} (h : SD_bits ws Q) : ws.length = 2 := by
  obtain ⟨_, rfl, _⟩ := h
  rfl
theorem flat_rep (d : PyData) (n : Nat) : (List.replicate n [d]).flatten = List.replicate n d := by
  induction n with
  | zero => rfl
  | succ n ih => rw [List.replicate_succ, List.flatten_cons, ih]; rfl
theorem ints_of {P : Int → Prop} : ∀ {ys : List PyData}, (∀ y ∈ ys, ∃ i, y = PyData.int i ∧ P i) → ∃ ns : List Int, ys = ns.map .int ∧ ∀ n ∈ ns, P n
  | [], _ => ⟨[], rfl, fun _ h => by cases h⟩
  | y :: ys, h => by
    obtain ⟨i, rfl, hi⟩ := h y List.mem_cons_self
    obtain ⟨ns, rfl, hn⟩ := ints_of fun z hz => h z (List.mem_cons_of_mem _ hz)
    exact ⟨i :: ns, rfl, fun n hm => by
      rcases List.mem_cons.mp hm with rfl | hm
      · exact hi
      · exact hn n hm⟩
theorem pu_bits (ws : List WD) (Qd : PyData → Prop) (h : SD_bits ws Qd) : db__law_wb_bits SD_up { nx := fun _ => Qd .none, rt := Qd } (startD N__law_wb_bits.length ws) := by
  obtain ⟨n, rfl, h0, h1, q⟩ := h
  simp [db__law_wb_bits, N__law_wb_bits, dSeq, dSet, dIf, dTest, dOp, fI0, dVar, dC, dCall, dCons, dHat, dD, dNil, SD_up]
  refine ⟨by decide, fun r r0 r1 => ?_⟩
  by_cases hr : r < 2
  · simp [hr, dRet, dOp, dTup, dDats, dCons, dD, dVar, dats, dNil, fRepA]
    have e := q (List.replicate n r) (by simp) (by simp only [bitsOk, List.all_replicate]; split <;> simp; omega)
    rw [show tI (List.replicate n r) = .tuple (List.replicate n (.int r)) by simp] at e
    have e' : Qd (.tuple (List.replicate (n : Int).toNat [PyData.int r]).flatten) := by rw [Int.toNat_natCast, flat_rep]; exact e
    repeat' (first | exact e' | refine And.intro ?_ ?_ | omega | decide | simp)
  · simp [hr, dNext, dRet, dOpQ, fTuple, dSeqE, dL, dLc, dRange1, dCons, dD, dVar, dNil]
    refine ⟨by omega, by omega, ?_⟩
    refine lcD_any (P := fun y => ∃ i, y = PyData.int i ∧ (0 ≤ i ∧ i ≤ 1)) (fun d hd N hN => ?_) (fun ys hl hp => ?_)
    · simp [gSet, wipeD, dCall, dCons, dHat, dD, dC, dNil, SD_up]
      exact ⟨by decide, fun r r0 r1 => hN _ ⟨r, rfl, r0, by omega⟩⟩
    · obtain ⟨ns, rfl, hn⟩ := ints_of hp
      have := q ns (by simpa using hl) (by
        simp only [bitsOk, List.all_eq_true]
        intro x hx
        have := hn x hx
        simp [this.1, this.2])
      simpa using this
def SD_draw : DSp := fun ws Q => ∃ n : Nat, ws = [.hat, .dat (.int n)] ∧ 2 ≤ n ∧ n ≤ 1000 ∧ ∀ (b : Int) (ns : List Int), Draw n b ns → b.natAbs < 2 ^ 1000 → Q (eR b ns)
theorem len_draw {ws : List WD} {Q : PyData → Prop} (h : SD_draw ws Q) : ws.length = 2 := by
  obtain ⟨_, rfl, _⟩ := h
  rfl
end Q
end
section
set_option Elab.async false
set_option linter.all false
set_option maxRecDepth 100000
set_option maxHeartbeats 2000000
set_option exponentiation.threshold 20000
namespace Q
open PySem PySem.Spec PyProof.Rows L2 HbE Evl Dl RZ Gx Fr
theorem dSeq_gen {t u : DS} {D : ED} {σ : Sd} (P : Sd → Prop) (h1 : ∀ N : Sd → Prop, (∀ σ', P σ' → N σ') → t { D with nx := N } σ) (h2 : ∀ σ', P σ' → u D σ') : dSeq t u D σ := h1 (u D) h2
theorem sum_bd {c : Int} : ∀ {l : List Int}, (∀ x ∈ l, 0 ≤ x ∧ x ≤ c) → 0 ≤ l.sum ∧ l.sum ≤ l.length * c
  | [], _ => by simp
  | x :: l, h => by
    have ih := sum_bd (l := l) fun y hy => h y (List.mem_cons_of_mem _ hy)
    have hx := h x List.mem_cons_self
    rw [List.sum_cons, List.length_cons]
    have : ((l.length + 1 : Nat) : Int) = (l.length : Int) + 1 := by omega
    rw [this, Int.add_mul, Int.one_mul]
    omega
theorem sum_set : ∀ {l : List Int} {k : Nat} {x y : Int}, l[k]? = some x → (l.set k y).sum = l.sum - x + y
  | [], _, _, _, h => by simp at h
  | z :: l, 0, x, y, h => by
    simp at h
    subst h
    simp only [List.set_cons_zero, List.sum_cons]
    omega
  | z :: l, k + 1, x, y, h => by
    have ih := sum_set (l := l) (k := k) (x := x) (y := y) (by simpa using h)
    simp only [List.set_cons_succ, List.sum_cons, ih]
    omega
theorem sum_scale (k : Int) : ∀ l : List Int, (l.map (k * ·)).sum = k * l.sum
  | [] => by simp
  | x :: l => by rw [List.map_cons, List.sum_cons, List.sum_cons, sum_scale k l, Int.mul_add]
theorem draw_tail {n : Nat} {cs : List Int} {more way most : Int} (hn : n ≤ 1000) (hl : cs.length = n) (hm : 1 ≤ more ∧ more ≤ 3) (hc : ∀ c ∈ cs, 0 ≤ c ∧ c ≤ 10 ^ 31) (x y : Option WD) :
    ft__law_wb_draw [some .hat, some (.dat (.int n)), some (.own (cs.map .int)), some (.dat (.int more)), some (.dat (.int way)), some (.dat (.int most)), x, y] = .ok (.rt (eR (more * cs.sum) (cs.map (more * ·)))) := by
  have sb := sum_bd hc
  have sb2 : cs.sum ≤ 10 ^ 34 := by
    have : (cs.length : Int) * 10 ^ 31 ≤ 1000 * 10 ^ 31 := Int.mul_le_mul_of_nonneg_right (by omega) (by decide)
    have e : (1000 : Int) * 10 ^ 31 = 10 ^ 34 := by decide
    omega
  have c1 : cMul more cs.sum = true := cMul_lt (a := 2) (b := 200) (by omega) (by omega)
  have c2 : ∀ c ∈ cs, cMul more c = true := fun c h => cMul_lt (a := 2) (b := 200) (by omega) (by have := hc c h; omega)
  have lc : lcF (fgSet 7) fYes (fOp (gI cMul fun i j => .int (i * j)) (fVar 3) (fVar 7)) [some .hat, some (.dat (.int n)), some (.dat (.list (cs.map .int))), some (.dat (.int more)), some (.dat (.int way)), some (.dat (.int most)), x, none] (cs.map .int) = .ok ((cs.map (more * ·)).map .int) := by
    rw [lcF_ok (f := fun d => match d with | .int a => .int (more * a) | d => d)]
    · simp
    · intro d hd
      obtain ⟨c, h, rfl⟩ := List.mem_map.mp hd
      simp [c2 c h]
  have ln : lim cs.length = true := lim_of (by omega)
  simp [ft__law_wb_draw, c1, ln, wipeD, lc]
theorem of_tail {ft : FS} {dt : DS} (hl : LeS (ofS E0 ft) dt) {D : ED} {σ : Sd} {d : PyData} (h : ft σ = .ok (.rt d)) (q : D.rt d) : dt D σ := hl D σ (by
  show (ft σ).Sat E0 D.go
  rw [h]
  exact q)
def Way (n : Nat) (σ : Sd) : Prop := ∃ way most : Int, σ = [some .hat, some (.dat (.int n)), none, none, some (.dat (.int way)), some (.dat (.int most)), none, none] ∧ 1 ≤ most ∧ most ≤ 10 ^ 30
def Cnt (n : Nat) (c : Int) (σ : Sd) : Prop := ∃ (way most : Int) (cs : List Int), σ = [some .hat, some (.dat (.int n)), some (.own (cs.map .int)), none, some (.dat (.int way)), some (.dat (.int most)), none, none] ∧ cs.length = n ∧ ∀ x ∈ cs, 0 ≤ x ∧ x ≤ c
def CntP (n : Nat) (c : Int) (σ : Sd) : Prop := ∃ (way most : Int) (cs : List Int), σ = [some .hat, some (.dat (.int n)), some (.own (cs.map .int)), none, some (.dat (.int way)), some (.dat (.int most)), none, none] ∧ cs.length = n ∧ (∀ x ∈ cs, 0 ≤ x ∧ x ≤ c) ∧ 0 < cs.sum
theorem pu_draw (ws : List WD) (Qd : PyData → Prop) (h : SD_draw ws Qd) : db__law_wb_draw SD_of SD_up { nx := fun _ => Qd .none, rt := Qd } (startD N__law_wb_draw.length ws) := by
  obtain ⟨n, rfl, h0, h1, q⟩ := h
  unfold db__law_wb_draw
  refine dSeq_gen (Way n) (fun N hN => ?_) (fun σ ⟨way, most, e, m1, m2⟩ => ?_)
  · simp [N__law_wb_draw, dAsgG, gTupD, gsCons, gSet, gsNil, dTup, dDats, dCons, dD, dCall, dHat, dC, dNil, SD_up, SD_of, dL, dLst, dats, dOp, fI]
    refine ⟨by decide, fun r r0 r1 => ⟨⟨by decide, by decide +kernel⟩, ?_, ?_, ?_, ?_, ?_⟩⟩ <;> exact hN _ ⟨r, _, rfl, by decide, by decide⟩
  subst e
  refine dSeq_gen (Cnt n (10 ^ 30)) (fun N hN => ?_) (fun σ ⟨way, most, cs, e, hl, hc⟩ => ?_)
  · simp [dSetO, dLc, dRange1, dCons, dD, dVar, dNil]
    refine ⟨by omega, by omega, ?_⟩
    refine lcD_any (P := fun y => ∃ i, y = PyData.int i ∧ (0 ≤ i ∧ i ≤ 10 ^ 30)) (fun d hd N2 hN2 => ?_) (fun ys hl hp => ?_)
    · simp [gSet, wipeD, dCall, dCons, dHat, dD, dOp, fI0, dVar, dC, dNil, SD_up]
      refine ⟨by omega, Nat.lt_of_le_of_lt (log2_le (c := 200) (by omega)) (by omega), fun r r0 r1 => hN2 _ ⟨r, rfl, r0, by omega⟩⟩
    · obtain ⟨ns, rfl, hn⟩ := ints_of hp
      exact hN _ ⟨way, most, ns, by simp, by simpa using hl, hn⟩
  subst e
  refine dSeq_gen (Cnt n (10 ^ 30)) (fun N hN => ?_) (fun σ ⟨way, most, cs, e, hl, hc⟩ => ?_)
  · simp [dIf, dTest, dOp, fEq, dVar, dC, dSetO, dRep, dLst, dDats, dCons, dD, dNil, dats, dNext, shaped_int]
    split
    · refine ⟨by omega, by omega, hN _ ⟨way, most, List.replicate n 0, by simp, by simp, fun x hx => ?_⟩⟩
      have := (List.mem_replicate.mp hx).2
      subst this
      decide
    · exact hN _ ⟨way, most, cs, rfl, hl, hc⟩
  subst e
  refine dSeq_gen (CntP n (10 ^ 31)) (fun N hN => ?_) (fun σ ⟨way, most, cs, e, hl, hc, hs⟩ => ?_)
  · simp [dAugIx, dCall, dCons, dHat, dD, dVar, dNil, SD_up, dC]
    refine ⟨by omega, Nat.lt_of_le_of_lt (log2_le (c := 17) (by omega)) (by omega), fun r r0 r1 => ?_⟩
    obtain ⟨k, rfl⟩ : ∃ k : Nat, r = k := ⟨r.toNat, by omega⟩
    have hk : k < cs.length := by omega
    rw [ixN_at hk]
    simp [hk]
    refine hN _ ⟨way, most, cs.set k (cs[k] + 1), by simp, by simpa using hl, fun x hx => ?_, ?_⟩
    · rcases List.mem_or_eq_of_mem_set hx with hx | rfl
      · have := hc x hx
        omega
      · have := hc _ (List.getElem_mem hk)
        omega
    · rw [sum_set (List.getElem?_eq_getElem hk)]
      have := (sum_bd hc).1
      omega
  subst e
  refine dSeq_gen (CntP n (10 ^ 31)) (fun N hN => ?_) (fun σ ⟨way, most, cs, e, hl, hc, hs⟩ => ?_)
  · simp [dIf, dTest, dOp, fEq, dVar, dC, dSetO, dRep, dLst, dDats, dCons, dD, dNil, dats, dNext, shaped_int]
    split
    · refine ⟨by omega, by omega, hN _ ⟨way, most, List.replicate n 1, by simp, by simp, fun x hx => ?_, ?_⟩⟩
      · have := (List.mem_replicate.mp hx).2
        subst this
        decide
      · simp
        omega
    · exact hN _ ⟨way, most, cs, rfl, hl, hc, hs⟩
  subst e
  refine dSeq_gen (fun σ => ∃ more : Int, 1 ≤ more ∧ more ≤ 3 ∧ σ = [some .hat, some (.dat (.int n)), some (.own (cs.map .int)), some (.dat (.int more)), some (.dat (.int way)), some (.dat (.int most)), none, none]) (fun N hN => ?_) (fun σ ⟨more, a1, a2, e⟩ => ?_)
  · simp [dSet, dCall, dCons, dHat, dD, dL, dLst, dDats, dats, dC, dNil, SD_of]
    refine ⟨?_, ?_, ?_⟩ <;> exact hN _ ⟨_, by decide, by decide, rfl⟩
  subst e
  have sb := sum_bd hc
  refine of_tail lt__law_wb_draw (draw_tail h1 hl ⟨a1, a2⟩ hc none none) (q _ _ ⟨by simpa using hl, Int.mul_pos (by omega) hs, fun x hx => ?_, sum_scale more cs⟩ ?_)
  · obtain ⟨c, hcm, rfl⟩ := List.mem_map.mp hx
    exact Int.mul_nonneg (by omega) (hc c hcm).1
  · have sb2 : cs.sum ≤ 10 ^ 34 := by
      have : (cs.length : Int) * 10 ^ 31 ≤ 1000 * 10 ^ 31 := Int.mul_le_mul_of_nonneg_right (by omega) (by decide)
      have e : (1000 : Int) * 10 ^ 31 = 10 ^ 34 := by decide
      omega
    exact pow_up (a := 202) (abs_mul_lt (j := 2) (k := 200) (by omega) (by omega)) (by omega)
end Q
end
section
set_option Elab.async false
set_option linter.all false
set_option maxRecDepth 100000
set_option maxHeartbeats 2000000
set_option exponentiation.threshold 20000
namespace Q
open PySem PySem.Spec PyProof.Rows L2 HbE Evl Dl RZ Gx Fr
def SD_right : DSp := fun ws Q => ws = [.hat] ∧ Q (.bool true)
theorem len_right {ws : List WD} {Q : PyData → Prop} (h : SD_right ws Q) : ws.length = 1 := by
  rw [h.1]
  rfl
theorem pu_right (ws : List WD) (Qd : PyData → Prop) (h : SD_right ws Qd) : db__law_right SD_of SD_bits SD_draw { nx := fun _ => Qd .none, rt := Qd } (startD N__law_right.length ws) := by
  obtain ⟨rfl, q⟩ := h
  unfold db__law_right
  refine dSeq_gen (fun σ => ∃ m : Nat, 1 ≤ m ∧ m ≤ 4 ∧ σ = [some .hat, some (.dat (.int m)), none, none, none, none, none, none, none, none, none, none, none]) (fun N hN => ?_) (fun σ ⟨m, m1, m2, e⟩ => ?_)
  · simp [N__law_right, dSet, dCall, dCons, dHat, dD, dL, dLst, dDats, dats, dC, dNil, SD_of]
    refine ⟨hN _ ⟨1, by decide, by decide, rfl⟩, hN _ ⟨2, by decide, by decide, rfl⟩, hN _ ⟨3, by decide, by decide, rfl⟩, hN _ ⟨4, by decide, by decide, rfl⟩⟩
  subst e
  have t := wb_two_i m (by omega)
  have p4 : 2 ^ m ≤ 16 := Nat.pow_le_pow_right (n := 2) (by omega) m2
  have p1 : 2 ≤ 2 ^ m := by
    have := Nat.pow_le_pow_right (n := 2) (by omega) m1
    omega
  refine dSeq_gen (fun σ => ∃ b ns ts, Draw (2 ^ m) b ns ∧ b.natAbs < 2 ^ 1000 ∧ ts.length = 2 ^ m ∧ bitsOk ts = true ∧ σ = [some .hat, some (.dat (.int m)), none, none, none, none, none, none, some (.dat (eR b ns)), some (.dat (tI ts)), none, none, none]) (fun N hN => ?_) (fun σ ⟨b, ns, ts, d1, d2, l1, l2, e⟩ => ?_)
  · have two : ∀ Q : PyData → Prop, Q (.int ((2 ^ m : Nat) : Int)) → ofF Dl.E0 F__law_wb_two [.dat (.int m)] Q := fun Q q => ⟨[.int m], rfl, by rw [t]; exact q⟩
    simp only [dAsgG, gTupD, gsCons, gSet, gsNil, dTup, dDats, dCons, dD, dCall, dHat, dVar, dNil, List.getElem?_cons_succ, List.getElem?_cons_zero]
    refine two _ ⟨2 ^ m, rfl, p1, by omega, fun b ns d1 d2 => two _ ⟨2 ^ m, rfl, p1, by omega, fun ts l1 l2 => ?_⟩⟩
    simp [dats]
    exact hN _ ⟨b, ns, ts, d1, d2, l1, l2, rfl⟩
  subst e
  exact of_tail lt__law_right (right_tail ⟨m1, m2⟩ d1 d2 l2 l1) q
def isTw : Rs Fw → Bool
  | .ok (.rt (.bool true)) => true
  | _ => false
theorem of_isTw {r : Rs Fw} (h : isTw r = true) : r = .ok (.rt (.bool true)) := by
  unfold isTw at h
  split at h
  · rfl
  · cases h
theorem law_tail (w0 w1 w4 w5 : Option WD) : ft_law [w0, w1, none, none, w4, w5, none] = .ok (.rt (.bool true)) := of_isTw (by kernel_rfl)
end Q
end
section
set_option Elab.async false
set_option linter.all false
set_option maxRecDepth 100000
set_option maxHeartbeats 2000000
set_option exponentiation.threshold 20000
namespace Q
open PySem PySem.Spec PyProof.Rows L2 HbE Evl Dl RZ Gx Fr
def SD_law : DSp := fun ws Q => ∃ ds, ws = [.dat (.list ds)] ∧ (intsD ds).isSome = true ∧ ds.length ≤ 63 ∧ Q (.bool true)
theorem len_law {ws : List WD} {Q : PyData → Prop} (h : SD_law ws Q) : ws.length = 1 := by
  obtain ⟨_, rfl, _⟩ := h
  rfl
theorem rangeD_at {n i : Nat} {d : PyData} (h : ((List.range n).map fun i : Nat => PyData.int i)[i]? = some d) : i < n ∧ d = .int i := range_at h
theorem pu_law (ws : List WD) (Qd : PyData → Prop) (h : SD_law ws Qd) : db_law SD_right { nx := fun _ => Qd .none, rt := Qd } (startD N_law.length ws) := by
  obtain ⟨ds, rfl, h0, h1, q⟩ := h
  unfold db_law
  have start : startD N_law.length [WD.dat (.list ds)] = [some (.dat (.list ds)), none, none, none, none, none, none] := rfl
  rw [start]
  refine dSeq_gen (fun σ => ∃ w1 w4 w5, σ = [some (.dat (.list ds)), w1, none, none, w4, w5, none]) (fun N hN => ?_) (fun σ ⟨w1, w4, w5, e⟩ => ?_)
  · simp only [dFor, dRange1, dCons, dD, dOpN, dDats, fMax2, fMin2, dOpQ, fLen, dVarQ, dC, dNil, dats, List.getElem?_cons_zero]
    refine ⟨by split <;> (try split) <;> omega, by split <;> (try split) <;> omega, ?_⟩
    refine forD_inv (fun i σ => ∃ w1 w4 w5, σ = [some (.dat (.list ds)), w1, none, none, w4, w5, none]) ⟨none, none, none, rfl⟩ (fun i d σ M hd ⟨w1, w4, w5, e⟩ hM => ?_) (fun σ hI => hN σ hI)
    have hi := rangeD_at hd
    have i3 : i < 3 := by
      have := hi.1
      split at this <;> (try split at this) <;> omega
    obtain ⟨_, rfl⟩ := hi
    subst e
    simp only [gSet, dSeq, dSetHat, dCons, dD, dVar, dNil, List.set_cons_succ, List.set_cons_zero, List.getElem?_cons_succ, List.getElem?_cons_zero]
    refine ⟨h0, ⟨by omega, by omega⟩, ?_⟩
    simp only [dFor, dRange1, dCons, dD, dC, dNil]
    refine ⟨by decide, by decide, ?_⟩
    refine forD_inv (fun j σ => ∃ w5, σ = [some (.dat (.list ds)), some (.dat (.int i)), none, none, some .hat, w5, none]) ⟨w5, rfl⟩ (fun j d σ M2 hd2 ⟨w5, e⟩ hM2 => ?_) (fun σ ⟨w5, e⟩ => hM σ ⟨_, _, _, e⟩)
    subst e
    simp [gSet, dIf, dNot, dTest, dCall, dCons, dHat, dNil, SD_right, dNext]
    exact hM2 _ ⟨_, rfl⟩
  subst e
  exact of_tail lt_law (law_tail _ _ _ _) q
end Q
end
section
set_option Elab.async false
set_option linter.all false
set_option maxRecDepth 100000
set_option maxHeartbeats 1000000
/-! The end of a law whose defs hold generator expressions: their tables by the top. -/
namespace Dl
open PySem PySem.Spec PyProof.Rows L2 HbE Evl RZ Gx
theorem walk_tab {l : PySem.W.OpenLaw} {n k : Nat} {q : Program} {loose : List Str} {XP : (Str → Option Value) → Heap → Prop} {YP : World → Heap → Prop} {d : DefRec} {K : Params → PySem.W.Frag} {CX : World → CXT} {x : Str}
    (h1 : l.most = some n) (h2 : n ≤ sizeLine) (h3 : d.params.defaults = []) (h4 : Room k callerA) (inK : ∀ (w : World) (g : Heap), YP w g → (K w.params).In g)
    (F : ∀ (w : World) (mg : Str → Option Value) (fa : Addr) (g : Heap), (K w.params).In g → g.Ns mainGlobals mg → mg d.name = some (.ref fa) →
      (∀ (y : Str) (c P : Addr), ((recsOf q).find? fun e => e.name == y).isSome = true → PySem.W.tabIn (K w.params) y = some (c, P) → PySem.W.CodeHd g c P ∧ g.get? P = some { cls := .none, data := .fields #[] }) →
      LamX.LawAtS l w (K w.params) (CX w) k n x mg fa g)
    (noX : ∀ (w : World) (H : Hp) (s : Shared) (e : Value) (t : Shared), CX w [] H s (fun _ _ _ => False) e t → False) : PySem.W.WalkO q loose XP YP l.row.toRowW d [] (fun f vs => PySem.call f vs) := by
  refine Att.attach_callB h1 h3 fun w s₀ s₁ mg mb fa o pm cd doc a vs ns G Y _ _ _ hm hobj hints hlen hb hg => ?_
  have KX := inK w _ Y
  have tabs := fun (y : Str) (c P : Addr) (hs : ((recsOf q).find? fun e => e.name == y).isSome = true) (ht : PySem.W.tabIn (K w.params) y = some (c, P)) =>
    (Option.isSome_iff_exists.mp hs).elim fun d2 hd2 => PySem.W.tab_of G.T KX hd2 ht
  obtain ⟨fd, cs, sp, a1, a2, a3, a4, a5, a6⟩ := F w mg fa _ KX G.T.g hm tabs
  exact LamX.law_callTs KX G.T.g G.T.b G.T.builtins G.T.nolimit hg a1 a2 a3 G.T.bmain hobj hints (Nat.le_trans hlen h2) h4 a6 a4 (fun H hH hS => a5 H a ns hlen hb hH hS) fun H e t => noX w H s₁ e t
theorem funC_mk {K : PySem.W.Frag} {x qual : Str} {st : Stmt} {c f : Addr} {oc : Value} {od an : Option Addr} {kV doc pm ct : Value} {osl : Array (Option Value)}
    (lk : K.lookup f = some ⟨oc, od, .func (PySem.W.fnOf x qual (defArgs st) (defBody st) (defScope st) .none kV doc pm an (.ref c) ct), osl⟩) (hc : PySem.W.codeIn K (.ref c) qual = true) (kp : PySem.W.keepIn K (.ref f) = true) :
    FunC K x qual st c f (PySem.W.fnOf x qual (defArgs st) (defBody st) (defScope st) .none kV doc pm an (.ref c) ct) := ⟨⟨oc, od, kV, doc, pm, an, ct, osl, rfl, lk, hc⟩, kp⟩
theorem tabB_of {base : Heap} {mg : Str → Option Value} {c P : Addr} (h : LamX.TabB base mg c P) : GxR.TabB base mg c P := ⟨h.code, h.bm, h.gP⟩
end Dl
namespace Dl
open PySem PySem.Spec PyProof.Rows L2 HbE Evl RZ Gx
theorem law_sp {K : PySem.W.Frag} {Ps : List Addr} {SD : DSp} {H : Hp} {a : Addr} {ns : List Int} {E : XK} (hT : ∀ P ∈ Ps, H P = some (.tbl #[])) (hS : SqL K H a (ns.map V.int)) (hD : SD [.dat (.list (ns.map .int))] (fun d => d = .bool true)) :
    spOf K Ps SD [.ref a] H (fun v _ => v = .bl true) E := by
  refine ⟨fun b => b ∈ Ps, [], _, _, ⟨fun b hb => (by rw [hT b hb]; simp), fun p hp => (by cases hp), fun P hP => ⟨hP, #[], hT P hP, True.intro⟩⟩, .cons ?_ .nil, hD, fun d v H' hd _ hv => ?_⟩
  · refine Dp.lst (xs := ns.map V.int) ?_ DpAll.ints
    have ex : ∀ o, H a = some o → (∀ ps, o ≠ .tbl ps) → msk (fun b => b ∈ Ps) H a = some o := fun o e n => msk_some.mpr ⟨fun m => by
      have := hT a m
      rw [e] at this
      cases this
      exact n _ rfl, e⟩
    rcases hS with hS | hS
    · rcases hS with hS | ⟨o, hS⟩
      · exact .inl (.inl (ex _ hS (fun ps z => by cases z)))
      · exact .inl (.inr ⟨o, ex _ hS (fun ps z => by cases z)⟩)
    · exact .inr hS
  · subst hd
    cases hv
    rfl
end Dl
namespace Dl
theorem allC {α : Type} {P : α → Prop} {a : α} {l : List α} (h : P a) (k : ∀ p ∈ l, P p) : ∀ p ∈ a :: l, P p := fun p hp => (List.mem_cons.mp hp).elim (fun e => e ▸ h) (k p)
theorem allN {α : Type} {P : α → Prop} : ∀ p ∈ ([] : List α), P p := fun _ h => nomatch h
end Dl
namespace Dl
open PySem
/-- where the table of a def's code stands -/
def tabP (K : PySem.W.Frag) (x : Str) : Addr := match PySem.W.tabIn K x with
  | some p => p.2
  | none => 0
end Dl
end
section
set_option Elab.async false
set_option linter.all false
set_option maxRecDepth 100000
set_option maxHeartbeats 2000000
namespace Q
open PySem PySem.Spec PyProof.Rows L2 HbE Evl Dl RZ Gx
theorem all_mk {l : PySem.W.OpenLaw} {w : World} {K : PySem.W.Frag} {h : Heap} {mg : Str → Option Value} {fa : Addr} {q : Program} (X : K.In h) (G : h.Ns mainGlobals mg) (hfa : mg "law" = some (.ref fa))
    (tabs : ∀ (y : Str) (c P : Addr), ((recsOf q).find? fun e => e.name == y).isSome = true → PySem.W.tabIn K y = some (c, P) → PySem.W.CodeHd h c P ∧ h.get? P = some { cls := .none, data := .fields #[] })
    {f_is_integer : Addr} {oc_is_integer : Value} {od_is_integer an_is_integer : Option Addr} {sl_is_integer : Array (Option Value)} {kV_is_integer dc_is_integer pm_is_integer ct_is_integer : Value} {cd_is_integer : Value}
    {f_is_short : Addr} {oc_is_short : Value} {od_is_short an_is_short : Option Addr} {sl_is_short : Array (Option Value)} {kV_is_short dc_is_short pm_is_short ct_is_short : Value} {cd_is_short : Value}
    {f_is_between : Addr} {oc_is_between : Value} {od_is_between an_is_between : Option Addr} {sl_is_between : Array (Option Value)} {kV_is_between dc_is_between pm_is_between ct_is_between : Value} {cd_is_between : Value}
    {f_is_bit : Addr} {oc_is_bit : Value} {od_is_bit an_is_bit : Option Addr} {sl_is_bit : Array (Option Value)} {kV_is_bit dc_is_bit pm_is_bit ct_is_bit : Value} {cd_is_bit : Value}
    {f_is_tuple_of : Addr} {oc_is_tuple_of : Value} {od_is_tuple_of an_is_tuple_of : Option Addr} {sl_is_tuple_of : Array (Option Value)} {kV_is_tuple_of dc_is_tuple_of pm_is_tuple_of ct_is_tuple_of : Value} {cd_is_tuple_of : Value}
    {f_is_word : Addr} {oc_is_word : Value} {od_is_word an_is_word : Option Addr} {sl_is_word : Array (Option Value)} {kV_is_word dc_is_word pm_is_word ct_is_word : Value} {cc_is_word : Addr}
    {f_is_row_within : Addr} {oc_is_row_within : Value} {od_is_row_within an_is_row_within : Option Addr} {sl_is_row_within : Array (Option Value)} {kV_is_row_within dc_is_row_within pm_is_row_within ct_is_row_within : Value} {cc_is_row_within : Addr}
    {f_is_weights : Addr} {oc_is_weights : Value} {od_is_weights an_is_weights : Option Addr} {sl_is_weights : Array (Option Value)} {kV_is_weights dc_is_weights pm_is_weights ct_is_weights : Value} {cd_is_weights : Value}
    {f_is_mix : Addr} {oc_is_mix : Value} {od_is_mix an_is_mix : Option Addr} {sl_is_mix : Array (Option Value)} {kV_is_mix dc_is_mix pm_is_mix ct_is_mix : Value} {cd_is_mix : Value}
    {f_need_number : Addr} {oc_need_number : Value} {od_need_number an_need_number : Option Addr} {sl_need_number : Array (Option Value)} {kV_need_number dc_need_number pm_need_number ct_need_number : Value} {cd_need_number : Value}
    {f_need_draw : Addr} {oc_need_draw : Value} {od_need_draw an_need_draw : Option Addr} {sl_need_draw : Array (Option Value)} {kV_need_draw dc_need_draw pm_need_draw ct_need_draw : Value} {cd_need_draw : Value}
    {f_need_word : Addr} {oc_need_word : Value} {od_need_word an_need_word : Option Addr} {sl_need_word : Array (Option Value)} {kV_need_word dc_need_word pm_need_word ct_need_word : Value} {cd_need_word : Value}
    {f_need_table : Addr} {oc_need_table : Value} {od_need_table an_need_table : Option Addr} {sl_need_table : Array (Option Value)} {kV_need_table dc_need_table pm_need_table ct_need_table : Value} {cd_need_table : Value}
    {f_spelled : Addr} {oc_spelled : Value} {od_spelled an_spelled : Option Addr} {sl_spelled : Array (Option Value)} {kV_spelled dc_spelled pm_spelled ct_spelled : Value} {cd_spelled : Value}
    {f_number_of : Addr} {oc_number_of : Value} {od_number_of an_number_of : Option Addr} {sl_number_of : Array (Option Value)} {kV_number_of dc_number_of pm_number_of ct_number_of : Value} {cd_number_of : Value}
    {f_reduced : Addr} {oc_reduced : Value} {od_reduced an_reduced : Option Addr} {sl_reduced : Array (Option Value)} {kV_reduced dc_reduced pm_reduced ct_reduced : Value} {cd_reduced : Value}
    {f_minus : Addr} {oc_minus : Value} {od_minus an_minus : Option Addr} {sl_minus : Array (Option Value)} {kV_minus dc_minus pm_minus ct_minus : Value} {cd_minus : Value}
    {f_dot : Addr} {oc_dot : Value} {od_dot an_dot : Option Addr} {sl_dot : Array (Option Value)} {kV_dot dc_dot pm_dot ct_dot : Value} {cd_dot : Value}
    {f_lowest_row : Addr} {oc_lowest_row : Value} {od_lowest_row an_lowest_row : Option Addr} {sl_lowest_row : Array (Option Value)} {kV_lowest_row dc_lowest_row pm_lowest_row ct_lowest_row : Value} {cd_lowest_row : Value}
    {f_chance_of : Addr} {oc_chance_of : Value} {od_chance_of an_chance_of : Option Addr} {sl_chance_of : Array (Option Value)} {kV_chance_of dc_chance_of pm_chance_of ct_chance_of : Value} {cd_chance_of : Value}
    {f_excess_of : Addr} {oc_excess_of : Value} {od_excess_of an_excess_of : Option Addr} {sl_excess_of : Array (Option Value)} {kV_excess_of dc_excess_of pm_excess_of ct_excess_of : Value} {cd_excess_of : Value}
    {f__need_bits : Addr} {oc__need_bits : Value} {od__need_bits an__need_bits : Option Addr} {sl__need_bits : Array (Option Value)} {kV__need_bits dc__need_bits pm__need_bits ct__need_bits : Value} {cd__need_bits : Value}
    {f__need_bits_and_draw : Addr} {oc__need_bits_and_draw : Value} {od__need_bits_and_draw an__need_bits_and_draw : Option Addr} {sl__need_bits_and_draw : Array (Option Value)} {kV__need_bits_and_draw dc__need_bits_and_draw pm__need_bits_and_draw ct__need_bits_and_draw : Value} {cd__need_bits_and_draw : Value}
    {f_words : Addr} {oc_words : Value} {od_words an_words : Option Addr} {sl_words : Array (Option Value)} {kV_words dc_words pm_words ct_words : Value} {cd_words : Value}
    {f_word_number : Addr} {oc_word_number : Value} {od_word_number an_word_number : Option Addr} {sl_word_number : Array (Option Value)} {kV_word_number dc_word_number pm_word_number ct_word_number : Value} {cd_word_number : Value}
    {f_draw_of : Addr} {oc_draw_of : Value} {od_draw_of an_draw_of : Option Addr} {sl_draw_of : Array (Option Value)} {kV_draw_of dc_draw_of pm_draw_of ct_draw_of : Value} {cc_draw_of : Addr}
    {f_even_draw : Addr} {oc_even_draw : Value} {od_even_draw an_even_draw : Option Addr} {sl_even_draw : Array (Option Value)} {kV_even_draw dc_even_draw pm_even_draw ct_even_draw : Value} {cd_even_draw : Value}
    {f_excess : Addr} {oc_excess : Value} {od_excess an_excess : Option Addr} {sl_excess : Array (Option Value)} {kV_excess dc_excess pm_excess ct_excess : Value} {cd_excess : Value}
    {f__heads : Addr} {oc__heads : Value} {od__heads an__heads : Option Addr} {sl__heads : Array (Option Value)} {kV__heads dc__heads pm__heads ct__heads : Value} {cd__heads : Value}
    {f__hybrid_of : Addr} {oc__hybrid_of : Value} {od__hybrid_of an__hybrid_of : Option Addr} {sl__hybrid_of : Array (Option Value)} {kV__hybrid_of dc__hybrid_of pm__hybrid_of ct__hybrid_of : Value} {cd__hybrid_of : Value}
    {f_hybrid : Addr} {oc_hybrid : Value} {od_hybrid an_hybrid : Option Addr} {sl_hybrid : Array (Option Value)} {kV_hybrid dc_hybrid pm_hybrid ct_hybrid : Value} {cd_hybrid : Value}
    {f_steps : Addr} {oc_steps : Value} {od_steps an_steps : Option Addr} {sl_steps : Array (Option Value)} {kV_steps dc_steps pm_steps ct_steps : Value} {cd_steps : Value}
    {f__law_wb_hat : Addr} {oc__law_wb_hat : Value} {od__law_wb_hat an__law_wb_hat : Option Addr} {sl__law_wb_hat : Array (Option Value)} {kV__law_wb_hat dc__law_wb_hat pm__law_wb_hat ct__law_wb_hat : Value} {cd__law_wb_hat : Value}
    {f__law_wb_up : Addr} {oc__law_wb_up : Value} {od__law_wb_up an__law_wb_up : Option Addr} {sl__law_wb_up : Array (Option Value)} {kV__law_wb_up dc__law_wb_up pm__law_wb_up ct__law_wb_up : Value} {cd__law_wb_up : Value}
    {f__law_wb_two : Addr} {oc__law_wb_two : Value} {od__law_wb_two an__law_wb_two : Option Addr} {sl__law_wb_two : Array (Option Value)} {kV__law_wb_two dc__law_wb_two pm__law_wb_two ct__law_wb_two : Value} {cd__law_wb_two : Value}
    {f__law_wb_of : Addr} {oc__law_wb_of : Value} {od__law_wb_of an__law_wb_of : Option Addr} {sl__law_wb_of : Array (Option Value)} {kV__law_wb_of dc__law_wb_of pm__law_wb_of ct__law_wb_of : Value} {cd__law_wb_of : Value}
    {f__law_wb_shared : Addr} {oc__law_wb_shared : Value} {od__law_wb_shared an__law_wb_shared : Option Addr} {sl__law_wb_shared : Array (Option Value)} {kV__law_wb_shared dc__law_wb_shared pm__law_wb_shared ct__law_wb_shared : Value} {cd__law_wb_shared : Value}
    {f__law_wb_frac : Addr} {oc__law_wb_frac : Value} {od__law_wb_frac an__law_wb_frac : Option Addr} {sl__law_wb_frac : Array (Option Value)} {kV__law_wb_frac dc__law_wb_frac pm__law_wb_frac ct__law_wb_frac : Value} {cd__law_wb_frac : Value}
    {f__law_wb_plus : Addr} {oc__law_wb_plus : Value} {od__law_wb_plus an__law_wb_plus : Option Addr} {sl__law_wb_plus : Array (Option Value)} {kV__law_wb_plus dc__law_wb_plus pm__law_wb_plus ct__law_wb_plus : Value} {cd__law_wb_plus : Value}
    {f__law_wb_less : Addr} {oc__law_wb_less : Value} {od__law_wb_less an__law_wb_less : Option Addr} {sl__law_wb_less : Array (Option Value)} {kV__law_wb_less dc__law_wb_less pm__law_wb_less ct__law_wb_less : Value} {cd__law_wb_less : Value}
    {f__law_wb_least : Addr} {oc__law_wb_least : Value} {od__law_wb_least an__law_wb_least : Option Addr} {sl__law_wb_least : Array (Option Value)} {kV__law_wb_least dc__law_wb_least pm__law_wb_least ct__law_wb_least : Value} {cd__law_wb_least : Value}
    {f__law_wb_word : Addr} {oc__law_wb_word : Value} {od__law_wb_word an__law_wb_word : Option Addr} {sl__law_wb_word : Array (Option Value)} {kV__law_wb_word dc__law_wb_word pm__law_wb_word ct__law_wb_word : Value} {cd__law_wb_word : Value}
    {f__law_wb_bits : Addr} {oc__law_wb_bits : Value} {od__law_wb_bits an__law_wb_bits : Option Addr} {sl__law_wb_bits : Array (Option Value)} {kV__law_wb_bits dc__law_wb_bits pm__law_wb_bits ct__law_wb_bits : Value} {cd__law_wb_bits : Value}
    {f__law_wb_draw : Addr} {oc__law_wb_draw : Value} {od__law_wb_draw an__law_wb_draw : Option Addr} {sl__law_wb_draw : Array (Option Value)} {kV__law_wb_draw dc__law_wb_draw pm__law_wb_draw ct__law_wb_draw : Value} {cd__law_wb_draw : Value}
    {f__law_wb_excess : Addr} {oc__law_wb_excess : Value} {od__law_wb_excess an__law_wb_excess : Option Addr} {sl__law_wb_excess : Array (Option Value)} {kV__law_wb_excess dc__law_wb_excess pm__law_wb_excess ct__law_wb_excess : Value} {cd__law_wb_excess : Value}
    {f__law_wb_begin : Addr} {oc__law_wb_begin : Value} {od__law_wb_begin an__law_wb_begin : Option Addr} {sl__law_wb_begin : Array (Option Value)} {kV__law_wb_begin dc__law_wb_begin pm__law_wb_begin ct__law_wb_begin : Value} {cd__law_wb_begin : Value}
    {f__law_wb_hybrid : Addr} {oc__law_wb_hybrid : Value} {od__law_wb_hybrid an__law_wb_hybrid : Option Addr} {sl__law_wb_hybrid : Array (Option Value)} {kV__law_wb_hybrid dc__law_wb_hybrid pm__law_wb_hybrid ct__law_wb_hybrid : Value} {cd__law_wb_hybrid : Value}
    {f__law_wb_even : Addr} {oc__law_wb_even : Value} {od__law_wb_even an__law_wb_even : Option Addr} {sl__law_wb_even : Array (Option Value)} {kV__law_wb_even dc__law_wb_even pm__law_wb_even ct__law_wb_even : Value} {cd__law_wb_even : Value}
    {f__law_words_right : Addr} {oc__law_words_right : Value} {od__law_words_right an__law_words_right : Option Addr} {sl__law_words_right : Array (Option Value)} {kV__law_words_right dc__law_words_right pm__law_words_right ct__law_words_right : Value} {cd__law_words_right : Value}
    {f__law_right : Addr} {oc__law_right : Value} {od__law_right an__law_right : Option Addr} {sl__law_right : Array (Option Value)} {kV__law_right dc__law_right pm__law_right ct__law_right : Value} {cd__law_right : Value}
    {f_law : Addr} {oc_law : Value} {od_law an_law : Option Addr} {sl_law : Array (Option Value)} {kV_law dc_law pm_law ct_law : Value} {cd_law : Value}
    {tk_LONGEST : Tok}
    {tk__MOST_BITS : Tok}
    (g_is_integer : PySem.W.nsIn K mainGlobals "is_integer" = some (some (.ref f_is_integer)))
    (l_is_integer : K.lookup f_is_integer = some ⟨oc_is_integer, od_is_integer, .func (PySem.W.fnOf "is_integer" "is_integer" (defArgs s_is_integer) (defBody s_is_integer) (defScope s_is_integer) .none kV_is_integer dc_is_integer pm_is_integer an_is_integer cd_is_integer ct_is_integer), sl_is_integer⟩)
    (c_is_integer : PySem.W.codeIn K cd_is_integer "is_integer" = true)
    (kf_is_integer : PySem.W.keepIn K (.ref f_is_integer) = true)
    (g_is_short : PySem.W.nsIn K mainGlobals "is_short" = some (some (.ref f_is_short)))
    (l_is_short : K.lookup f_is_short = some ⟨oc_is_short, od_is_short, .func (PySem.W.fnOf "is_short" "is_short" (defArgs s_is_short) (defBody s_is_short) (defScope s_is_short) .none kV_is_short dc_is_short pm_is_short an_is_short cd_is_short ct_is_short), sl_is_short⟩)
    (c_is_short : PySem.W.codeIn K cd_is_short "is_short" = true)
    (kf_is_short : PySem.W.keepIn K (.ref f_is_short) = true)
    (g_is_between : PySem.W.nsIn K mainGlobals "is_between" = some (some (.ref f_is_between)))
    (l_is_between : K.lookup f_is_between = some ⟨oc_is_between, od_is_between, .func (PySem.W.fnOf "is_between" "is_between" (defArgs s_is_between) (defBody s_is_between) (defScope s_is_between) .none kV_is_between dc_is_between pm_is_between an_is_between cd_is_between ct_is_between), sl_is_between⟩)
    (c_is_between : PySem.W.codeIn K cd_is_between "is_between" = true)
    (kf_is_between : PySem.W.keepIn K (.ref f_is_between) = true)
    (g_is_bit : PySem.W.nsIn K mainGlobals "is_bit" = some (some (.ref f_is_bit)))
    (l_is_bit : K.lookup f_is_bit = some ⟨oc_is_bit, od_is_bit, .func (PySem.W.fnOf "is_bit" "is_bit" (defArgs s_is_bit) (defBody s_is_bit) (defScope s_is_bit) .none kV_is_bit dc_is_bit pm_is_bit an_is_bit cd_is_bit ct_is_bit), sl_is_bit⟩)
    (c_is_bit : PySem.W.codeIn K cd_is_bit "is_bit" = true)
    (kf_is_bit : PySem.W.keepIn K (.ref f_is_bit) = true)
    (g_is_tuple_of : PySem.W.nsIn K mainGlobals "is_tuple_of" = some (some (.ref f_is_tuple_of)))
    (l_is_tuple_of : K.lookup f_is_tuple_of = some ⟨oc_is_tuple_of, od_is_tuple_of, .func (PySem.W.fnOf "is_tuple_of" "is_tuple_of" (defArgs s_is_tuple_of) (defBody s_is_tuple_of) (defScope s_is_tuple_of) .none kV_is_tuple_of dc_is_tuple_of pm_is_tuple_of an_is_tuple_of cd_is_tuple_of ct_is_tuple_of), sl_is_tuple_of⟩)
    (c_is_tuple_of : PySem.W.codeIn K cd_is_tuple_of "is_tuple_of" = true)
    (kf_is_tuple_of : PySem.W.keepIn K (.ref f_is_tuple_of) = true)
    (g_is_word : PySem.W.nsIn K mainGlobals "is_word" = some (some (.ref f_is_word)))
    (l_is_word : K.lookup f_is_word = some ⟨oc_is_word, od_is_word, .func (PySem.W.fnOf "is_word" "is_word" (defArgs s_is_word) (defBody s_is_word) (defScope s_is_word) .none kV_is_word dc_is_word pm_is_word an_is_word (.ref cc_is_word) ct_is_word), sl_is_word⟩)
    (c_is_word : PySem.W.codeIn K (.ref cc_is_word) "is_word" = true)
    (kf_is_word : PySem.W.keepIn K (.ref f_is_word) = true)
    (t_is_word : PySem.W.tabIn K "is_word" = some (cc_is_word, tabP K "is_word"))
    (r_is_word : ((recsOf q).find? fun e => e.name == ("is_word" : Str)).isSome = true)
    (p_is_word : K.lookup (tabP K "is_word") = none)
    (g_is_row_within : PySem.W.nsIn K mainGlobals "is_row_within" = some (some (.ref f_is_row_within)))
    (l_is_row_within : K.lookup f_is_row_within = some ⟨oc_is_row_within, od_is_row_within, .func (PySem.W.fnOf "is_row_within" "is_row_within" (defArgs s_is_row_within) (defBody s_is_row_within) (defScope s_is_row_within) .none kV_is_row_within dc_is_row_within pm_is_row_within an_is_row_within (.ref cc_is_row_within) ct_is_row_within), sl_is_row_within⟩)
    (c_is_row_within : PySem.W.codeIn K (.ref cc_is_row_within) "is_row_within" = true)
    (kf_is_row_within : PySem.W.keepIn K (.ref f_is_row_within) = true)
    (t_is_row_within : PySem.W.tabIn K "is_row_within" = some (cc_is_row_within, tabP K "is_row_within"))
    (r_is_row_within : ((recsOf q).find? fun e => e.name == ("is_row_within" : Str)).isSome = true)
    (p_is_row_within : K.lookup (tabP K "is_row_within") = none)
    (g_is_weights : PySem.W.nsIn K mainGlobals "is_weights" = some (some (.ref f_is_weights)))
    (l_is_weights : K.lookup f_is_weights = some ⟨oc_is_weights, od_is_weights, .func (PySem.W.fnOf "is_weights" "is_weights" (defArgs s_is_weights) (defBody s_is_weights) (defScope s_is_weights) .none kV_is_weights dc_is_weights pm_is_weights an_is_weights cd_is_weights ct_is_weights), sl_is_weights⟩)
    (c_is_weights : PySem.W.codeIn K cd_is_weights "is_weights" = true)
    (kf_is_weights : PySem.W.keepIn K (.ref f_is_weights) = true)
    (g_is_mix : PySem.W.nsIn K mainGlobals "is_mix" = some (some (.ref f_is_mix)))
    (l_is_mix : K.lookup f_is_mix = some ⟨oc_is_mix, od_is_mix, .func (PySem.W.fnOf "is_mix" "is_mix" (defArgs s_is_mix) (defBody s_is_mix) (defScope s_is_mix) .none kV_is_mix dc_is_mix pm_is_mix an_is_mix cd_is_mix ct_is_mix), sl_is_mix⟩)
    (c_is_mix : PySem.W.codeIn K cd_is_mix "is_mix" = true)
    (kf_is_mix : PySem.W.keepIn K (.ref f_is_mix) = true)
    (g_need_number : PySem.W.nsIn K mainGlobals "need_number" = some (some (.ref f_need_number)))
    (l_need_number : K.lookup f_need_number = some ⟨oc_need_number, od_need_number, .func (PySem.W.fnOf "need_number" "need_number" (defArgs s_need_number) (defBody s_need_number) (defScope s_need_number) .none kV_need_number dc_need_number pm_need_number an_need_number cd_need_number ct_need_number), sl_need_number⟩)
    (c_need_number : PySem.W.codeIn K cd_need_number "need_number" = true)
    (kf_need_number : PySem.W.keepIn K (.ref f_need_number) = true)
    (g_need_draw : PySem.W.nsIn K mainGlobals "need_draw" = some (some (.ref f_need_draw)))
    (l_need_draw : K.lookup f_need_draw = some ⟨oc_need_draw, od_need_draw, .func (PySem.W.fnOf "need_draw" "need_draw" (defArgs s_need_draw) (defBody s_need_draw) (defScope s_need_draw) .none kV_need_draw dc_need_draw pm_need_draw an_need_draw cd_need_draw ct_need_draw), sl_need_draw⟩)
    (c_need_draw : PySem.W.codeIn K cd_need_draw "need_draw" = true)
    (kf_need_draw : PySem.W.keepIn K (.ref f_need_draw) = true)
    (g_need_word : PySem.W.nsIn K mainGlobals "need_word" = some (some (.ref f_need_word)))
    (l_need_word : K.lookup f_need_word = some ⟨oc_need_word, od_need_word, .func (PySem.W.fnOf "need_word" "need_word" (defArgs s_need_word) (defBody s_need_word) (defScope s_need_word) .none kV_need_word dc_need_word pm_need_word an_need_word cd_need_word ct_need_word), sl_need_word⟩)
    (c_need_word : PySem.W.codeIn K cd_need_word "need_word" = true)
    (kf_need_word : PySem.W.keepIn K (.ref f_need_word) = true)
    (g_need_table : PySem.W.nsIn K mainGlobals "need_table" = some (some (.ref f_need_table)))
    (l_need_table : K.lookup f_need_table = some ⟨oc_need_table, od_need_table, .func (PySem.W.fnOf "need_table" "need_table" (defArgs s_need_table) (defBody s_need_table) (defScope s_need_table) .none kV_need_table dc_need_table pm_need_table an_need_table cd_need_table ct_need_table), sl_need_table⟩)
    (c_need_table : PySem.W.codeIn K cd_need_table "need_table" = true)
    (kf_need_table : PySem.W.keepIn K (.ref f_need_table) = true)
    (g_spelled : PySem.W.nsIn K mainGlobals "spelled" = some (some (.ref f_spelled)))
    (l_spelled : K.lookup f_spelled = some ⟨oc_spelled, od_spelled, .func (PySem.W.fnOf "spelled" "spelled" (defArgs s_spelled) (defBody s_spelled) (defScope s_spelled) .none kV_spelled dc_spelled pm_spelled an_spelled cd_spelled ct_spelled), sl_spelled⟩)
    (c_spelled : PySem.W.codeIn K cd_spelled "spelled" = true)
    (kf_spelled : PySem.W.keepIn K (.ref f_spelled) = true)
    (g_number_of : PySem.W.nsIn K mainGlobals "number_of" = some (some (.ref f_number_of)))
    (l_number_of : K.lookup f_number_of = some ⟨oc_number_of, od_number_of, .func (PySem.W.fnOf "number_of" "number_of" (defArgs s_number_of) (defBody s_number_of) (defScope s_number_of) .none kV_number_of dc_number_of pm_number_of an_number_of cd_number_of ct_number_of), sl_number_of⟩)
    (c_number_of : PySem.W.codeIn K cd_number_of "number_of" = true)
    (kf_number_of : PySem.W.keepIn K (.ref f_number_of) = true)
    (g_reduced : PySem.W.nsIn K mainGlobals "reduced" = some (some (.ref f_reduced)))
    (l_reduced : K.lookup f_reduced = some ⟨oc_reduced, od_reduced, .func (PySem.W.fnOf "reduced" "reduced" (defArgs s_reduced) (defBody s_reduced) (defScope s_reduced) .none kV_reduced dc_reduced pm_reduced an_reduced cd_reduced ct_reduced), sl_reduced⟩)
    (c_reduced : PySem.W.codeIn K cd_reduced "reduced" = true)
    (kf_reduced : PySem.W.keepIn K (.ref f_reduced) = true)
    (g_minus : PySem.W.nsIn K mainGlobals "minus" = some (some (.ref f_minus)))
    (l_minus : K.lookup f_minus = some ⟨oc_minus, od_minus, .func (PySem.W.fnOf "minus" "minus" (defArgs s_minus) (defBody s_minus) (defScope s_minus) .none kV_minus dc_minus pm_minus an_minus cd_minus ct_minus), sl_minus⟩)
    (c_minus : PySem.W.codeIn K cd_minus "minus" = true)
    (kf_minus : PySem.W.keepIn K (.ref f_minus) = true)
    (g_dot : PySem.W.nsIn K mainGlobals "dot" = some (some (.ref f_dot)))
    (l_dot : K.lookup f_dot = some ⟨oc_dot, od_dot, .func (PySem.W.fnOf "dot" "dot" (defArgs s_dot) (defBody s_dot) (defScope s_dot) .none kV_dot dc_dot pm_dot an_dot cd_dot ct_dot), sl_dot⟩)
    (c_dot : PySem.W.codeIn K cd_dot "dot" = true)
    (kf_dot : PySem.W.keepIn K (.ref f_dot) = true)
    (g_lowest_row : PySem.W.nsIn K mainGlobals "lowest_row" = some (some (.ref f_lowest_row)))
    (l_lowest_row : K.lookup f_lowest_row = some ⟨oc_lowest_row, od_lowest_row, .func (PySem.W.fnOf "lowest_row" "lowest_row" (defArgs s_lowest_row) (defBody s_lowest_row) (defScope s_lowest_row) .none kV_lowest_row dc_lowest_row pm_lowest_row an_lowest_row cd_lowest_row ct_lowest_row), sl_lowest_row⟩)
    (c_lowest_row : PySem.W.codeIn K cd_lowest_row "lowest_row" = true)
    (kf_lowest_row : PySem.W.keepIn K (.ref f_lowest_row) = true)
    (g_chance_of : PySem.W.nsIn K mainGlobals "chance_of" = some (some (.ref f_chance_of)))
    (l_chance_of : K.lookup f_chance_of = some ⟨oc_chance_of, od_chance_of, .func (PySem.W.fnOf "chance_of" "chance_of" (defArgs s_chance_of) (defBody s_chance_of) (defScope s_chance_of) .none kV_chance_of dc_chance_of pm_chance_of an_chance_of cd_chance_of ct_chance_of), sl_chance_of⟩)
    (c_chance_of : PySem.W.codeIn K cd_chance_of "chance_of" = true)
    (kf_chance_of : PySem.W.keepIn K (.ref f_chance_of) = true)
    (g_excess_of : PySem.W.nsIn K mainGlobals "excess_of" = some (some (.ref f_excess_of)))
    (l_excess_of : K.lookup f_excess_of = some ⟨oc_excess_of, od_excess_of, .func (PySem.W.fnOf "excess_of" "excess_of" (defArgs s_excess_of) (defBody s_excess_of) (defScope s_excess_of) .none kV_excess_of dc_excess_of pm_excess_of an_excess_of cd_excess_of ct_excess_of), sl_excess_of⟩)
    (c_excess_of : PySem.W.codeIn K cd_excess_of "excess_of" = true)
    (kf_excess_of : PySem.W.keepIn K (.ref f_excess_of) = true)
    (g__need_bits : PySem.W.nsIn K mainGlobals "_need_bits" = some (some (.ref f__need_bits)))
    (l__need_bits : K.lookup f__need_bits = some ⟨oc__need_bits, od__need_bits, .func (PySem.W.fnOf "_need_bits" "_need_bits" (defArgs s__need_bits) (defBody s__need_bits) (defScope s__need_bits) .none kV__need_bits dc__need_bits pm__need_bits an__need_bits cd__need_bits ct__need_bits), sl__need_bits⟩)
    (c__need_bits : PySem.W.codeIn K cd__need_bits "_need_bits" = true)
    (kf__need_bits : PySem.W.keepIn K (.ref f__need_bits) = true)
    (g__need_bits_and_draw : PySem.W.nsIn K mainGlobals "_need_bits_and_draw" = some (some (.ref f__need_bits_and_draw)))
    (l__need_bits_and_draw : K.lookup f__need_bits_and_draw = some ⟨oc__need_bits_and_draw, od__need_bits_and_draw, .func (PySem.W.fnOf "_need_bits_and_draw" "_need_bits_and_draw" (defArgs s__need_bits_and_draw) (defBody s__need_bits_and_draw) (defScope s__need_bits_and_draw) .none kV__need_bits_and_draw dc__need_bits_and_draw pm__need_bits_and_draw an__need_bits_and_draw cd__need_bits_and_draw ct__need_bits_and_draw), sl__need_bits_and_draw⟩)
    (c__need_bits_and_draw : PySem.W.codeIn K cd__need_bits_and_draw "_need_bits_and_draw" = true)
    (kf__need_bits_and_draw : PySem.W.keepIn K (.ref f__need_bits_and_draw) = true)
    (g_words : PySem.W.nsIn K mainGlobals "words" = some (some (.ref f_words)))
    (l_words : K.lookup f_words = some ⟨oc_words, od_words, .func (PySem.W.fnOf "words" "words" (defArgs s_words) (defBody s_words) (defScope s_words) .none kV_words dc_words pm_words an_words cd_words ct_words), sl_words⟩)
    (c_words : PySem.W.codeIn K cd_words "words" = true)
    (kf_words : PySem.W.keepIn K (.ref f_words) = true)
    (g_word_number : PySem.W.nsIn K mainGlobals "word_number" = some (some (.ref f_word_number)))
    (l_word_number : K.lookup f_word_number = some ⟨oc_word_number, od_word_number, .func (PySem.W.fnOf "word_number" "word_number" (defArgs s_word_number) (defBody s_word_number) (defScope s_word_number) .none kV_word_number dc_word_number pm_word_number an_word_number cd_word_number ct_word_number), sl_word_number⟩)
    (c_word_number : PySem.W.codeIn K cd_word_number "word_number" = true)
    (kf_word_number : PySem.W.keepIn K (.ref f_word_number) = true)
    (g_draw_of : PySem.W.nsIn K mainGlobals "draw_of" = some (some (.ref f_draw_of)))
    (l_draw_of : K.lookup f_draw_of = some ⟨oc_draw_of, od_draw_of, .func (PySem.W.fnOf "draw_of" "draw_of" (defArgs s_draw_of) (defBody s_draw_of) (defScope s_draw_of) .none kV_draw_of dc_draw_of pm_draw_of an_draw_of (.ref cc_draw_of) ct_draw_of), sl_draw_of⟩)
    (c_draw_of : PySem.W.codeIn K (.ref cc_draw_of) "draw_of" = true)
    (kf_draw_of : PySem.W.keepIn K (.ref f_draw_of) = true)
    (t_draw_of : PySem.W.tabIn K "draw_of" = some (cc_draw_of, tabP K "draw_of"))
    (r_draw_of : ((recsOf q).find? fun e => e.name == ("draw_of" : Str)).isSome = true)
    (p_draw_of : K.lookup (tabP K "draw_of") = none)
    (g_even_draw : PySem.W.nsIn K mainGlobals "even_draw" = some (some (.ref f_even_draw)))
    (l_even_draw : K.lookup f_even_draw = some ⟨oc_even_draw, od_even_draw, .func (PySem.W.fnOf "even_draw" "even_draw" (defArgs s_even_draw) (defBody s_even_draw) (defScope s_even_draw) .none kV_even_draw dc_even_draw pm_even_draw an_even_draw cd_even_draw ct_even_draw), sl_even_draw⟩)
    (c_even_draw : PySem.W.codeIn K cd_even_draw "even_draw" = true)
    (kf_even_draw : PySem.W.keepIn K (.ref f_even_draw) = true)
    (g_excess : PySem.W.nsIn K mainGlobals "excess" = some (some (.ref f_excess)))
    (l_excess : K.lookup f_excess = some ⟨oc_excess, od_excess, .func (PySem.W.fnOf "excess" "excess" (defArgs s_excess) (defBody s_excess) (defScope s_excess) .none kV_excess dc_excess pm_excess an_excess cd_excess ct_excess), sl_excess⟩)
    (c_excess : PySem.W.codeIn K cd_excess "excess" = true)
    (kf_excess : PySem.W.keepIn K (.ref f_excess) = true)
    (g__heads : PySem.W.nsIn K mainGlobals "_heads" = some (some (.ref f__heads)))
    (l__heads : K.lookup f__heads = some ⟨oc__heads, od__heads, .func (PySem.W.fnOf "_heads" "_heads" (defArgs s__heads) (defBody s__heads) (defScope s__heads) .none kV__heads dc__heads pm__heads an__heads cd__heads ct__heads), sl__heads⟩)
    (c__heads : PySem.W.codeIn K cd__heads "_heads" = true)
    (kf__heads : PySem.W.keepIn K (.ref f__heads) = true)
    (g__hybrid_of : PySem.W.nsIn K mainGlobals "_hybrid_of" = some (some (.ref f__hybrid_of)))
    (l__hybrid_of : K.lookup f__hybrid_of = some ⟨oc__hybrid_of, od__hybrid_of, .func (PySem.W.fnOf "_hybrid_of" "_hybrid_of" (defArgs s__hybrid_of) (defBody s__hybrid_of) (defScope s__hybrid_of) .none kV__hybrid_of dc__hybrid_of pm__hybrid_of an__hybrid_of cd__hybrid_of ct__hybrid_of), sl__hybrid_of⟩)
    (c__hybrid_of : PySem.W.codeIn K cd__hybrid_of "_hybrid_of" = true)
    (kf__hybrid_of : PySem.W.keepIn K (.ref f__hybrid_of) = true)
    (g_hybrid : PySem.W.nsIn K mainGlobals "hybrid" = some (some (.ref f_hybrid)))
    (l_hybrid : K.lookup f_hybrid = some ⟨oc_hybrid, od_hybrid, .func (PySem.W.fnOf "hybrid" "hybrid" (defArgs s_hybrid) (defBody s_hybrid) (defScope s_hybrid) .none kV_hybrid dc_hybrid pm_hybrid an_hybrid cd_hybrid ct_hybrid), sl_hybrid⟩)
    (c_hybrid : PySem.W.codeIn K cd_hybrid "hybrid" = true)
    (kf_hybrid : PySem.W.keepIn K (.ref f_hybrid) = true)
    (g_steps : PySem.W.nsIn K mainGlobals "steps" = some (some (.ref f_steps)))
    (l_steps : K.lookup f_steps = some ⟨oc_steps, od_steps, .func (PySem.W.fnOf "steps" "steps" (defArgs s_steps) (defBody s_steps) (defScope s_steps) .none kV_steps dc_steps pm_steps an_steps cd_steps ct_steps), sl_steps⟩)
    (c_steps : PySem.W.codeIn K cd_steps "steps" = true)
    (kf_steps : PySem.W.keepIn K (.ref f_steps) = true)
    (g__law_wb_hat : PySem.W.nsIn K mainGlobals "_law_wb_hat" = some (some (.ref f__law_wb_hat)))
    (l__law_wb_hat : K.lookup f__law_wb_hat = some ⟨oc__law_wb_hat, od__law_wb_hat, .func (PySem.W.fnOf "_law_wb_hat" "_law_wb_hat" (defArgs s__law_wb_hat) (defBody s__law_wb_hat) (defScope s__law_wb_hat) .none kV__law_wb_hat dc__law_wb_hat pm__law_wb_hat an__law_wb_hat cd__law_wb_hat ct__law_wb_hat), sl__law_wb_hat⟩)
    (c__law_wb_hat : PySem.W.codeIn K cd__law_wb_hat "_law_wb_hat" = true)
    (kf__law_wb_hat : PySem.W.keepIn K (.ref f__law_wb_hat) = true)
    (g__law_wb_up : PySem.W.nsIn K mainGlobals "_law_wb_up" = some (some (.ref f__law_wb_up)))
    (l__law_wb_up : K.lookup f__law_wb_up = some ⟨oc__law_wb_up, od__law_wb_up, .func (PySem.W.fnOf "_law_wb_up" "_law_wb_up" (defArgs s__law_wb_up) (defBody s__law_wb_up) (defScope s__law_wb_up) .none kV__law_wb_up dc__law_wb_up pm__law_wb_up an__law_wb_up cd__law_wb_up ct__law_wb_up), sl__law_wb_up⟩)
    (c__law_wb_up : PySem.W.codeIn K cd__law_wb_up "_law_wb_up" = true)
    (kf__law_wb_up : PySem.W.keepIn K (.ref f__law_wb_up) = true)
    (g__law_wb_two : PySem.W.nsIn K mainGlobals "_law_wb_two" = some (some (.ref f__law_wb_two)))
    (l__law_wb_two : K.lookup f__law_wb_two = some ⟨oc__law_wb_two, od__law_wb_two, .func (PySem.W.fnOf "_law_wb_two" "_law_wb_two" (defArgs s__law_wb_two) (defBody s__law_wb_two) (defScope s__law_wb_two) .none kV__law_wb_two dc__law_wb_two pm__law_wb_two an__law_wb_two cd__law_wb_two ct__law_wb_two), sl__law_wb_two⟩)
    (c__law_wb_two : PySem.W.codeIn K cd__law_wb_two "_law_wb_two" = true)
    (kf__law_wb_two : PySem.W.keepIn K (.ref f__law_wb_two) = true)
    (g__law_wb_of : PySem.W.nsIn K mainGlobals "_law_wb_of" = some (some (.ref f__law_wb_of)))
    (l__law_wb_of : K.lookup f__law_wb_of = some ⟨oc__law_wb_of, od__law_wb_of, .func (PySem.W.fnOf "_law_wb_of" "_law_wb_of" (defArgs s__law_wb_of) (defBody s__law_wb_of) (defScope s__law_wb_of) .none kV__law_wb_of dc__law_wb_of pm__law_wb_of an__law_wb_of cd__law_wb_of ct__law_wb_of), sl__law_wb_of⟩)
    (c__law_wb_of : PySem.W.codeIn K cd__law_wb_of "_law_wb_of" = true)
    (kf__law_wb_of : PySem.W.keepIn K (.ref f__law_wb_of) = true)
    (g__law_wb_shared : PySem.W.nsIn K mainGlobals "_law_wb_shared" = some (some (.ref f__law_wb_shared)))
    (l__law_wb_shared : K.lookup f__law_wb_shared = some ⟨oc__law_wb_shared, od__law_wb_shared, .func (PySem.W.fnOf "_law_wb_shared" "_law_wb_shared" (defArgs s__law_wb_shared) (defBody s__law_wb_shared) (defScope s__law_wb_shared) .none kV__law_wb_shared dc__law_wb_shared pm__law_wb_shared an__law_wb_shared cd__law_wb_shared ct__law_wb_shared), sl__law_wb_shared⟩)
    (c__law_wb_shared : PySem.W.codeIn K cd__law_wb_shared "_law_wb_shared" = true)
    (kf__law_wb_shared : PySem.W.keepIn K (.ref f__law_wb_shared) = true)
    (g__law_wb_frac : PySem.W.nsIn K mainGlobals "_law_wb_frac" = some (some (.ref f__law_wb_frac)))
    (l__law_wb_frac : K.lookup f__law_wb_frac = some ⟨oc__law_wb_frac, od__law_wb_frac, .func (PySem.W.fnOf "_law_wb_frac" "_law_wb_frac" (defArgs s__law_wb_frac) (defBody s__law_wb_frac) (defScope s__law_wb_frac) .none kV__law_wb_frac dc__law_wb_frac pm__law_wb_frac an__law_wb_frac cd__law_wb_frac ct__law_wb_frac), sl__law_wb_frac⟩)
    (c__law_wb_frac : PySem.W.codeIn K cd__law_wb_frac "_law_wb_frac" = true)
    (kf__law_wb_frac : PySem.W.keepIn K (.ref f__law_wb_frac) = true)
    (g__law_wb_plus : PySem.W.nsIn K mainGlobals "_law_wb_plus" = some (some (.ref f__law_wb_plus)))
    (l__law_wb_plus : K.lookup f__law_wb_plus = some ⟨oc__law_wb_plus, od__law_wb_plus, .func (PySem.W.fnOf "_law_wb_plus" "_law_wb_plus" (defArgs s__law_wb_plus) (defBody s__law_wb_plus) (defScope s__law_wb_plus) .none kV__law_wb_plus dc__law_wb_plus pm__law_wb_plus an__law_wb_plus cd__law_wb_plus ct__law_wb_plus), sl__law_wb_plus⟩)
    (c__law_wb_plus : PySem.W.codeIn K cd__law_wb_plus "_law_wb_plus" = true)
    (kf__law_wb_plus : PySem.W.keepIn K (.ref f__law_wb_plus) = true)
    (g__law_wb_less : PySem.W.nsIn K mainGlobals "_law_wb_less" = some (some (.ref f__law_wb_less)))
    (l__law_wb_less : K.lookup f__law_wb_less = some ⟨oc__law_wb_less, od__law_wb_less, .func (PySem.W.fnOf "_law_wb_less" "_law_wb_less" (defArgs s__law_wb_less) (defBody s__law_wb_less) (defScope s__law_wb_less) .none kV__law_wb_less dc__law_wb_less pm__law_wb_less an__law_wb_less cd__law_wb_less ct__law_wb_less), sl__law_wb_less⟩)
    (c__law_wb_less : PySem.W.codeIn K cd__law_wb_less "_law_wb_less" = true)
    (kf__law_wb_less : PySem.W.keepIn K (.ref f__law_wb_less) = true)
    (g__law_wb_least : PySem.W.nsIn K mainGlobals "_law_wb_least" = some (some (.ref f__law_wb_least)))
    (l__law_wb_least : K.lookup f__law_wb_least = some ⟨oc__law_wb_least, od__law_wb_least, .func (PySem.W.fnOf "_law_wb_least" "_law_wb_least" (defArgs s__law_wb_least) (defBody s__law_wb_least) (defScope s__law_wb_least) .none kV__law_wb_least dc__law_wb_least pm__law_wb_least an__law_wb_least cd__law_wb_least ct__law_wb_least), sl__law_wb_least⟩)
    (c__law_wb_least : PySem.W.codeIn K cd__law_wb_least "_law_wb_least" = true)
    (kf__law_wb_least : PySem.W.keepIn K (.ref f__law_wb_least) = true)
    (g__law_wb_word : PySem.W.nsIn K mainGlobals "_law_wb_word" = some (some (.ref f__law_wb_word)))
    (l__law_wb_word : K.lookup f__law_wb_word = some ⟨oc__law_wb_word, od__law_wb_word, .func (PySem.W.fnOf "_law_wb_word" "_law_wb_word" (defArgs s__law_wb_word) (defBody s__law_wb_word) (defScope s__law_wb_word) .none kV__law_wb_word dc__law_wb_word pm__law_wb_word an__law_wb_word cd__law_wb_word ct__law_wb_word), sl__law_wb_word⟩)
    (c__law_wb_word : PySem.W.codeIn K cd__law_wb_word "_law_wb_word" = true)
    (kf__law_wb_word : PySem.W.keepIn K (.ref f__law_wb_word) = true)
    (g__law_wb_bits : PySem.W.nsIn K mainGlobals "_law_wb_bits" = some (some (.ref f__law_wb_bits)))
    (l__law_wb_bits : K.lookup f__law_wb_bits = some ⟨oc__law_wb_bits, od__law_wb_bits, .func (PySem.W.fnOf "_law_wb_bits" "_law_wb_bits" (defArgs s__law_wb_bits) (defBody s__law_wb_bits) (defScope s__law_wb_bits) .none kV__law_wb_bits dc__law_wb_bits pm__law_wb_bits an__law_wb_bits cd__law_wb_bits ct__law_wb_bits), sl__law_wb_bits⟩)
    (c__law_wb_bits : PySem.W.codeIn K cd__law_wb_bits "_law_wb_bits" = true)
    (kf__law_wb_bits : PySem.W.keepIn K (.ref f__law_wb_bits) = true)
    (g__law_wb_draw : PySem.W.nsIn K mainGlobals "_law_wb_draw" = some (some (.ref f__law_wb_draw)))
    (l__law_wb_draw : K.lookup f__law_wb_draw = some ⟨oc__law_wb_draw, od__law_wb_draw, .func (PySem.W.fnOf "_law_wb_draw" "_law_wb_draw" (defArgs s__law_wb_draw) (defBody s__law_wb_draw) (defScope s__law_wb_draw) .none kV__law_wb_draw dc__law_wb_draw pm__law_wb_draw an__law_wb_draw cd__law_wb_draw ct__law_wb_draw), sl__law_wb_draw⟩)
    (c__law_wb_draw : PySem.W.codeIn K cd__law_wb_draw "_law_wb_draw" = true)
    (kf__law_wb_draw : PySem.W.keepIn K (.ref f__law_wb_draw) = true)
    (g__law_wb_excess : PySem.W.nsIn K mainGlobals "_law_wb_excess" = some (some (.ref f__law_wb_excess)))
    (l__law_wb_excess : K.lookup f__law_wb_excess = some ⟨oc__law_wb_excess, od__law_wb_excess, .func (PySem.W.fnOf "_law_wb_excess" "_law_wb_excess" (defArgs s__law_wb_excess) (defBody s__law_wb_excess) (defScope s__law_wb_excess) .none kV__law_wb_excess dc__law_wb_excess pm__law_wb_excess an__law_wb_excess cd__law_wb_excess ct__law_wb_excess), sl__law_wb_excess⟩)
    (c__law_wb_excess : PySem.W.codeIn K cd__law_wb_excess "_law_wb_excess" = true)
    (kf__law_wb_excess : PySem.W.keepIn K (.ref f__law_wb_excess) = true)
    (g__law_wb_begin : PySem.W.nsIn K mainGlobals "_law_wb_begin" = some (some (.ref f__law_wb_begin)))
    (l__law_wb_begin : K.lookup f__law_wb_begin = some ⟨oc__law_wb_begin, od__law_wb_begin, .func (PySem.W.fnOf "_law_wb_begin" "_law_wb_begin" (defArgs s__law_wb_begin) (defBody s__law_wb_begin) (defScope s__law_wb_begin) .none kV__law_wb_begin dc__law_wb_begin pm__law_wb_begin an__law_wb_begin cd__law_wb_begin ct__law_wb_begin), sl__law_wb_begin⟩)
    (c__law_wb_begin : PySem.W.codeIn K cd__law_wb_begin "_law_wb_begin" = true)
    (kf__law_wb_begin : PySem.W.keepIn K (.ref f__law_wb_begin) = true)
    (g__law_wb_hybrid : PySem.W.nsIn K mainGlobals "_law_wb_hybrid" = some (some (.ref f__law_wb_hybrid)))
    (l__law_wb_hybrid : K.lookup f__law_wb_hybrid = some ⟨oc__law_wb_hybrid, od__law_wb_hybrid, .func (PySem.W.fnOf "_law_wb_hybrid" "_law_wb_hybrid" (defArgs s__law_wb_hybrid) (defBody s__law_wb_hybrid) (defScope s__law_wb_hybrid) .none kV__law_wb_hybrid dc__law_wb_hybrid pm__law_wb_hybrid an__law_wb_hybrid cd__law_wb_hybrid ct__law_wb_hybrid), sl__law_wb_hybrid⟩)
    (c__law_wb_hybrid : PySem.W.codeIn K cd__law_wb_hybrid "_law_wb_hybrid" = true)
    (kf__law_wb_hybrid : PySem.W.keepIn K (.ref f__law_wb_hybrid) = true)
    (g__law_wb_even : PySem.W.nsIn K mainGlobals "_law_wb_even" = some (some (.ref f__law_wb_even)))
    (l__law_wb_even : K.lookup f__law_wb_even = some ⟨oc__law_wb_even, od__law_wb_even, .func (PySem.W.fnOf "_law_wb_even" "_law_wb_even" (defArgs s__law_wb_even) (defBody s__law_wb_even) (defScope s__law_wb_even) .none kV__law_wb_even dc__law_wb_even pm__law_wb_even an__law_wb_even cd__law_wb_even ct__law_wb_even), sl__law_wb_even⟩)
    (c__law_wb_even : PySem.W.codeIn K cd__law_wb_even "_law_wb_even" = true)
    (kf__law_wb_even : PySem.W.keepIn K (.ref f__law_wb_even) = true)
    (g__law_words_right : PySem.W.nsIn K mainGlobals "_law_words_right" = some (some (.ref f__law_words_right)))
    (l__law_words_right : K.lookup f__law_words_right = some ⟨oc__law_words_right, od__law_words_right, .func (PySem.W.fnOf "_law_words_right" "_law_words_right" (defArgs s__law_words_right) (defBody s__law_words_right) (defScope s__law_words_right) .none kV__law_words_right dc__law_words_right pm__law_words_right an__law_words_right cd__law_words_right ct__law_words_right), sl__law_words_right⟩)
    (c__law_words_right : PySem.W.codeIn K cd__law_words_right "_law_words_right" = true)
    (kf__law_words_right : PySem.W.keepIn K (.ref f__law_words_right) = true)
    (g__law_right : PySem.W.nsIn K mainGlobals "_law_right" = some (some (.ref f__law_right)))
    (l__law_right : K.lookup f__law_right = some ⟨oc__law_right, od__law_right, .func (PySem.W.fnOf "_law_right" "_law_right" (defArgs s__law_right) (defBody s__law_right) (defScope s__law_right) .none kV__law_right dc__law_right pm__law_right an__law_right cd__law_right ct__law_right), sl__law_right⟩)
    (c__law_right : PySem.W.codeIn K cd__law_right "_law_right" = true)
    (kf__law_right : PySem.W.keepIn K (.ref f__law_right) = true)
    (g_law : PySem.W.nsIn K mainGlobals "law" = some (some (.ref f_law)))
    (l_law : K.lookup f_law = some ⟨oc_law, od_law, .func (PySem.W.fnOf "law" "law" (defArgs s_law) (defBody s_law) (defScope s_law) .none kV_law dc_law pm_law an_law cd_law ct_law), sl_law⟩)
    (c_law : PySem.W.codeIn K cd_law "law" = true)
    (kf_law : PySem.W.keepIn K (.ref f_law) = true)
    (z_isinstance : PySem.W.nsIn K mainGlobals "isinstance" = some none)
    (z_int : PySem.W.nsIn K mainGlobals "int" = some none)
    (z_bool : PySem.W.nsIn K mainGlobals "bool" = some none)
    (z_tuple : PySem.W.nsIn K mainGlobals "tuple" = some none)
    (z_len : PySem.W.nsIn K mainGlobals "len" = some none)
    (z_all : PySem.W.nsIn K mainGlobals "all" = some none)
    (z_min : PySem.W.nsIn K mainGlobals "min" = some none)
    (z_sum : PySem.W.nsIn K mainGlobals "sum" = some none)
    (z_range : PySem.W.nsIn K mainGlobals "range" = some none)
    (z_enumerate : PySem.W.nsIn K mainGlobals "enumerate" = some none)
    (z_zip : PySem.W.nsIn K mainGlobals "zip" = some none)
    (z_abs : PySem.W.nsIn K mainGlobals "abs" = some none)
    (z_max : PySem.W.nsIn K mainGlobals "max" = some none)
    (c_LONGEST : PySem.W.nsIn K mainGlobals "LONGEST" = some (some (.int 999999999 tk_LONGEST)))
    (c__MOST_BITS : PySem.W.nsIn K mainGlobals "_MOST_BITS" = some (some (.int 6 tk__MOST_BITS)))
    (i_gcd : PySem.W.nsIn K mainGlobals "gcd" = some (some (.builtin "math.gcd"))) :
    LamX.LawAtS l w K CX0 11 63 "script" mg fa h := by
  have e := hfa.symm.trans (PySem.W.mg_of X G g_law)
  cases e
  have F_is_integer := fun_mk (st := s_is_integer) l_is_integer c_is_integer kf_is_integer
  have F_is_short := fun_mk (st := s_is_short) l_is_short c_is_short kf_is_short
  have F_is_between := fun_mk (st := s_is_between) l_is_between c_is_between kf_is_between
  have F_is_bit := fun_mk (st := s_is_bit) l_is_bit c_is_bit kf_is_bit
  have F_is_tuple_of := fun_mk (st := s_is_tuple_of) l_is_tuple_of c_is_tuple_of kf_is_tuple_of
  have F_is_word := funC_mk (st := s_is_word) l_is_word c_is_word kf_is_word
  have F_is_row_within := funC_mk (st := s_is_row_within) l_is_row_within c_is_row_within kf_is_row_within
  have F_is_weights := fun_mk (st := s_is_weights) l_is_weights c_is_weights kf_is_weights
  have F_is_mix := fun_mk (st := s_is_mix) l_is_mix c_is_mix kf_is_mix
  have F_need_number := fun_mk (st := s_need_number) l_need_number c_need_number kf_need_number
  have F_need_draw := fun_mk (st := s_need_draw) l_need_draw c_need_draw kf_need_draw
  have F_need_word := fun_mk (st := s_need_word) l_need_word c_need_word kf_need_word
  have F_need_table := fun_mk (st := s_need_table) l_need_table c_need_table kf_need_table
  have F_spelled := fun_mk (st := s_spelled) l_spelled c_spelled kf_spelled
  have F_number_of := fun_mk (st := s_number_of) l_number_of c_number_of kf_number_of
  have F_reduced := fun_mk (st := s_reduced) l_reduced c_reduced kf_reduced
  have F_minus := fun_mk (st := s_minus) l_minus c_minus kf_minus
  have F_dot := fun_mk (st := s_dot) l_dot c_dot kf_dot
  have F_lowest_row := fun_mk (st := s_lowest_row) l_lowest_row c_lowest_row kf_lowest_row
  have F_chance_of := fun_mk (st := s_chance_of) l_chance_of c_chance_of kf_chance_of
  have F_excess_of := fun_mk (st := s_excess_of) l_excess_of c_excess_of kf_excess_of
  have F__need_bits := fun_mk (st := s__need_bits) l__need_bits c__need_bits kf__need_bits
  have F__need_bits_and_draw := fun_mk (st := s__need_bits_and_draw) l__need_bits_and_draw c__need_bits_and_draw kf__need_bits_and_draw
  have F_words := fun_mk (st := s_words) l_words c_words kf_words
  have F_word_number := fun_mk (st := s_word_number) l_word_number c_word_number kf_word_number
  have F_draw_of := funC_mk (st := s_draw_of) l_draw_of c_draw_of kf_draw_of
  have F_even_draw := fun_mk (st := s_even_draw) l_even_draw c_even_draw kf_even_draw
  have F_excess := fun_mk (st := s_excess) l_excess c_excess kf_excess
  have F__heads := fun_mk (st := s__heads) l__heads c__heads kf__heads
  have F__hybrid_of := fun_mk (st := s__hybrid_of) l__hybrid_of c__hybrid_of kf__hybrid_of
  have F_hybrid := fun_mk (st := s_hybrid) l_hybrid c_hybrid kf_hybrid
  have F_steps := fun_mk (st := s_steps) l_steps c_steps kf_steps
  have F__law_wb_hat := fun_mk (st := s__law_wb_hat) l__law_wb_hat c__law_wb_hat kf__law_wb_hat
  have F__law_wb_up := fun_mk (st := s__law_wb_up) l__law_wb_up c__law_wb_up kf__law_wb_up
  have F__law_wb_two := fun_mk (st := s__law_wb_two) l__law_wb_two c__law_wb_two kf__law_wb_two
  have F__law_wb_of := fun_mk (st := s__law_wb_of) l__law_wb_of c__law_wb_of kf__law_wb_of
  have F__law_wb_shared := fun_mk (st := s__law_wb_shared) l__law_wb_shared c__law_wb_shared kf__law_wb_shared
  have F__law_wb_frac := fun_mk (st := s__law_wb_frac) l__law_wb_frac c__law_wb_frac kf__law_wb_frac
  have F__law_wb_plus := fun_mk (st := s__law_wb_plus) l__law_wb_plus c__law_wb_plus kf__law_wb_plus
  have F__law_wb_less := fun_mk (st := s__law_wb_less) l__law_wb_less c__law_wb_less kf__law_wb_less
  have F__law_wb_least := fun_mk (st := s__law_wb_least) l__law_wb_least c__law_wb_least kf__law_wb_least
  have F__law_wb_word := fun_mk (st := s__law_wb_word) l__law_wb_word c__law_wb_word kf__law_wb_word
  have F__law_wb_bits := fun_mk (st := s__law_wb_bits) l__law_wb_bits c__law_wb_bits kf__law_wb_bits
  have F__law_wb_draw := fun_mk (st := s__law_wb_draw) l__law_wb_draw c__law_wb_draw kf__law_wb_draw
  have F__law_wb_excess := fun_mk (st := s__law_wb_excess) l__law_wb_excess c__law_wb_excess kf__law_wb_excess
  have F__law_wb_begin := fun_mk (st := s__law_wb_begin) l__law_wb_begin c__law_wb_begin kf__law_wb_begin
  have F__law_wb_hybrid := fun_mk (st := s__law_wb_hybrid) l__law_wb_hybrid c__law_wb_hybrid kf__law_wb_hybrid
  have F__law_wb_even := fun_mk (st := s__law_wb_even) l__law_wb_even c__law_wb_even kf__law_wb_even
  have F__law_words_right := fun_mk (st := s__law_words_right) l__law_words_right c__law_words_right kf__law_words_right
  have F__law_right := fun_mk (st := s__law_right) l__law_right c__law_right kf__law_right
  have F_law := fun_mk (st := s_law) l_law c_law kf_law
  refine ⟨PySem.W.fnOf "law" "law" (defArgs s_law) (defBody s_law) (defScope s_law) .none kV_law dc_law pm_law an_law cd_law ct_law, [(cc_is_word, tabP K "is_word"), (cc_is_row_within, tabP K "is_row_within"), (cc_draw_of, tabP K "draw_of")], spOf K [tabP K "is_word", tabP K "is_row_within", tabP K "draw_of"] SD_law,
    (allC ((tabs _ _ _ r_is_word t_is_word).2) (allC ((tabs _ _ _ r_is_row_within t_is_row_within).2) (allC ((tabs _ _ _ r_draw_of t_draw_of).2) (allN)))),
    (allC (p_is_word) (allC (p_is_row_within) (allC (p_draw_of) (allN)))),
    (allC ((tabs _ _ _ r_is_word t_is_word).1) (allC ((tabs _ _ _ r_is_row_within t_is_row_within).1) (allC ((tabs _ _ _ r_draw_of t_draw_of).1) (allN)))),
    fun s v => .of_eq rfl, fun H a ns hn _ hT hS => law_sp (allC (hT _ (List.mem_cons_self)) (allC (hT _ (List.mem_cons_of_mem _ (List.mem_cons_self))) (allC (hT _ (List.mem_cons_of_mem _ (List.mem_cons_of_mem _ (List.mem_cons_self)))) (allN)))) hS ⟨_, rfl, by rw [intsD_map]; rfl, by rw [List.length_map]; exact hn, rfl⟩, fun base _ _ TB => ?_⟩
  have B_is_word := tabB_of (TB _ (List.mem_cons_self))
  have B_is_row_within := tabB_of (TB _ (List.mem_cons_of_mem _ (List.mem_cons_self)))
  have B_draw_of := tabB_of (TB _ (List.mem_cons_of_mem _ (List.mem_cons_of_mem _ (List.mem_cons_self))))
  have b_is_integer := F_is_integer.binds (ps := ["value"]) fun _ _ _ _ _ _ us hl => match us, hl with | [_], _ => rfl
  have m_is_integer := PySem.W.mg_of X G g_is_integer
  have b_is_short := F_is_short.binds (ps := ["value"]) fun _ _ _ _ _ _ us hl => match us, hl with | [_], _ => rfl
  have m_is_short := PySem.W.mg_of X G g_is_short
  have b_is_between := F_is_between.binds (ps := ["value", "low", "high"]) fun _ _ _ _ _ _ us hl => match us, hl with | [_, _, _], _ => rfl
  have m_is_between := PySem.W.mg_of X G g_is_between
  have b_is_bit := F_is_bit.binds (ps := ["value"]) fun _ _ _ _ _ _ us hl => match us, hl with | [_], _ => rfl
  have m_is_bit := PySem.W.mg_of X G g_is_bit
  have b_is_tuple_of := F_is_tuple_of.binds (ps := ["value", "length"]) fun _ _ _ _ _ _ us hl => match us, hl with | [_, _], _ => rfl
  have m_is_tuple_of := PySem.W.mg_of X G g_is_tuple_of
  have b_is_word : Binds K (PySem.W.fnOf "is_word" "is_word" (defArgs s_is_word) (defBody s_is_word) (defScope s_is_word) .none kV_is_word dc_is_word pm_is_word an_is_word (.ref cc_is_word) ct_is_word) ["value", "length"] [] := .all fun us hl => match us, hl with | [_, _], _ => rfl
  have m_is_word := PySem.W.mg_of X G g_is_word
  have b_is_row_within : Binds K (PySem.W.fnOf "is_row_within" "is_row_within" (defArgs s_is_row_within) (defBody s_is_row_within) (defScope s_is_row_within) .none kV_is_row_within dc_is_row_within pm_is_row_within an_is_row_within (.ref cc_is_row_within) ct_is_row_within) ["value", "least", "most"] [] := .all fun us hl => match us, hl with | [_, _, _], _ => rfl
  have m_is_row_within := PySem.W.mg_of X G g_is_row_within
  have b_is_weights := F_is_weights.binds (ps := ["value", "count"]) fun _ _ _ _ _ _ us hl => match us, hl with | [_, _], _ => rfl
  have m_is_weights := PySem.W.mg_of X G g_is_weights
  have b_is_mix := F_is_mix.binds (ps := ["value", "count"]) fun _ _ _ _ _ _ us hl => match us, hl with | [_, _], _ => rfl
  have m_is_mix := PySem.W.mg_of X G g_is_mix
  have b_need_number := F_need_number.binds (ps := ["value", "low", "high"]) fun _ _ _ _ _ _ us hl => match us, hl with | [_, _, _], _ => rfl
  have m_need_number := PySem.W.mg_of X G g_need_number
  have b_need_draw := F_need_draw.binds (ps := ["value", "count"]) fun _ _ _ _ _ _ us hl => match us, hl with | [_, _], _ => rfl
  have m_need_draw := PySem.W.mg_of X G g_need_draw
  have b_need_word := F_need_word.binds (ps := ["value", "length"]) fun _ _ _ _ _ _ us hl => match us, hl with | [_, _], _ => rfl
  have m_need_word := PySem.W.mg_of X G g_need_word
  have b_need_table := F_need_table.binds (ps := ["value", "bits"]) fun _ _ _ _ _ _ us hl => match us, hl with | [_, _], _ => rfl
  have m_need_table := PySem.W.mg_of X G g_need_table
  have b_spelled := F_spelled.binds (ps := ["number", "length"]) fun _ _ _ _ _ _ us hl => match us, hl with | [_, _], _ => rfl
  have m_spelled := PySem.W.mg_of X G g_spelled
  have b_number_of := F_number_of.binds (ps := ["word"]) fun _ _ _ _ _ _ us hl => match us, hl with | [_], _ => rfl
  have m_number_of := PySem.W.mg_of X G g_number_of
  have b_reduced := F_reduced.binds (ps := ["top", "bottom"]) fun _ _ _ _ _ _ us hl => match us, hl with | [_, _], _ => rfl
  have m_reduced := PySem.W.mg_of X G g_reduced
  have b_minus := F_minus.binds (ps := ["one", "other"]) fun _ _ _ _ _ _ us hl => match us, hl with | [_, _], _ => rfl
  have m_minus := PySem.W.mg_of X G g_minus
  have b_dot := F_dot.binds (ps := ["one", "other"]) fun _ _ _ _ _ _ us hl => match us, hl with | [_, _], _ => rfl
  have m_dot := PySem.W.mg_of X G g_dot
  have b_lowest_row := F_lowest_row.binds (ps := ["bottom", "numbers"]) fun _ _ _ _ _ _ us hl => match us, hl with | [_, _], _ => rfl
  have m_lowest_row := PySem.W.mg_of X G g_lowest_row
  have b_chance_of := F_chance_of.binds (ps := ["draw", "test"]) fun _ _ _ _ _ _ us hl => match us, hl with | [_, _], _ => rfl
  have m_chance_of := PySem.W.mg_of X G g_chance_of
  have b_excess_of := F_excess_of.binds (ps := ["draw", "test"]) fun _ _ _ _ _ _ us hl => match us, hl with | [_, _], _ => rfl
  have m_excess_of := PySem.W.mg_of X G g_excess_of
  have b__need_bits := F__need_bits.binds (ps := ["m"]) fun _ _ _ _ _ _ us hl => match us, hl with | [_], _ => rfl
  have m__need_bits := PySem.W.mg_of X G g__need_bits
  have b__need_bits_and_draw := F__need_bits_and_draw.binds (ps := ["m", "draw"]) fun _ _ _ _ _ _ us hl => match us, hl with | [_, _], _ => rfl
  have m__need_bits_and_draw := PySem.W.mg_of X G g__need_bits_and_draw
  have b_words := F_words.binds (ps := ["m"]) fun _ _ _ _ _ _ us hl => match us, hl with | [_], _ => rfl
  have m_words := PySem.W.mg_of X G g_words
  have b_word_number := F_word_number.binds (ps := ["m", "word"]) fun _ _ _ _ _ _ us hl => match us, hl with | [_, _], _ => rfl
  have m_word_number := PySem.W.mg_of X G g_word_number
  have b_draw_of : Binds K (PySem.W.fnOf "draw_of" "draw_of" (defArgs s_draw_of) (defBody s_draw_of) (defScope s_draw_of) .none kV_draw_of dc_draw_of pm_draw_of an_draw_of (.ref cc_draw_of) ct_draw_of) ["m", "counts"] [] := .all fun us hl => match us, hl with | [_, _], _ => rfl
  have m_draw_of := PySem.W.mg_of X G g_draw_of
  have b_even_draw := F_even_draw.binds (ps := ["m"]) fun _ _ _ _ _ _ us hl => match us, hl with | [_], _ => rfl
  have m_even_draw := PySem.W.mg_of X G g_even_draw
  have b_excess := F_excess.binds (ps := ["m", "draw", "test"]) fun _ _ _ _ _ _ us hl => match us, hl with | [_, _, _], _ => rfl
  have m_excess := PySem.W.mg_of X G g_excess
  have b__heads := F__heads.binds (ps := ["numbers", "length"]) fun _ _ _ _ _ _ us hl => match us, hl with | [_, _], _ => rfl
  have m__heads := PySem.W.mg_of X G g__heads
  have b__hybrid_of := F__hybrid_of.binds (ps := ["m", "draw", "length"]) fun _ _ _ _ _ _ us hl => match us, hl with | [_, _, _], _ => rfl
  have m__hybrid_of := PySem.W.mg_of X G g__hybrid_of
  have b_hybrid := F_hybrid.binds (ps := ["m", "draw", "number"]) fun _ _ _ _ _ _ us hl => match us, hl with | [_, _, _], _ => rfl
  have m_hybrid := PySem.W.mg_of X G g_hybrid
  have b_steps := F_steps.binds (ps := ["m", "draw", "test"]) fun _ _ _ _ _ _ us hl => match us, hl with | [_, _, _], _ => rfl
  have m_steps := PySem.W.mg_of X G g_steps
  have b__law_wb_hat := F__law_wb_hat.binds (ps := ["script", "spot"]) fun _ _ _ _ _ _ us hl => match us, hl with | [_, _], _ => rfl
  have m__law_wb_hat := PySem.W.mg_of X G g__law_wb_hat
  have b__law_wb_up := F__law_wb_up.binds (ps := ["hat", "total"]) fun _ _ _ _ _ _ us hl => match us, hl with | [_, _], _ => rfl
  have m__law_wb_up := PySem.W.mg_of X G g__law_wb_up
  have b__law_wb_two := F__law_wb_two.binds (ps := ["many"]) fun _ _ _ _ _ _ us hl => match us, hl with | [_], _ => rfl
  have m__law_wb_two := PySem.W.mg_of X G g__law_wb_two
  have b__law_wb_of := F__law_wb_of.binds (ps := ["hat", "items"]) fun _ _ _ _ _ _ us hl => match us, hl with | [_, _], _ => rfl
  have m__law_wb_of := PySem.W.mg_of X G g__law_wb_of
  have b__law_wb_shared := F__law_wb_shared.binds (ps := ["one", "other"]) fun _ _ _ _ _ _ us hl => match us, hl with | [_, _], _ => rfl
  have m__law_wb_shared := PySem.W.mg_of X G g__law_wb_shared
  have b__law_wb_frac := F__law_wb_frac.binds (ps := ["top", "bottom"]) fun _ _ _ _ _ _ us hl => match us, hl with | [_, _], _ => rfl
  have m__law_wb_frac := PySem.W.mg_of X G g__law_wb_frac
  have b__law_wb_plus := F__law_wb_plus.binds (ps := ["one", "other"]) fun _ _ _ _ _ _ us hl => match us, hl with | [_, _], _ => rfl
  have m__law_wb_plus := PySem.W.mg_of X G g__law_wb_plus
  have b__law_wb_less := F__law_wb_less.binds (ps := ["one", "other"]) fun _ _ _ _ _ _ us hl => match us, hl with | [_, _], _ => rfl
  have m__law_wb_less := PySem.W.mg_of X G g__law_wb_less
  have b__law_wb_least := F__law_wb_least.binds (ps := ["row"]) fun _ _ _ _ _ _ us hl => match us, hl with | [_], _ => rfl
  have m__law_wb_least := PySem.W.mg_of X G g__law_wb_least
  have b__law_wb_word := F__law_wb_word.binds (ps := ["many", "number"]) fun _ _ _ _ _ _ us hl => match us, hl with | [_, _], _ => rfl
  have m__law_wb_word := PySem.W.mg_of X G g__law_wb_word
  have b__law_wb_bits := F__law_wb_bits.binds (ps := ["hat", "many"]) fun _ _ _ _ _ _ us hl => match us, hl with | [_, _], _ => rfl
  have m__law_wb_bits := PySem.W.mg_of X G g__law_wb_bits
  have b__law_wb_draw := F__law_wb_draw.binds (ps := ["hat", "many"]) fun _ _ _ _ _ _ us hl => match us, hl with | [_, _], _ => rfl
  have m__law_wb_draw := PySem.W.mg_of X G g__law_wb_draw
  have b__law_wb_excess := F__law_wb_excess.binds (ps := ["draw", "test"]) fun _ _ _ _ _ _ us hl => match us, hl with | [_, _], _ => rfl
  have m__law_wb_excess := PySem.W.mg_of X G g__law_wb_excess
  have b__law_wb_begin := F__law_wb_begin.binds (ps := ["draw", "m", "word"]) fun _ _ _ _ _ _ us hl => match us, hl with | [_, _, _], _ => rfl
  have m__law_wb_begin := PySem.W.mg_of X G g__law_wb_begin
  have b__law_wb_hybrid := F__law_wb_hybrid.binds (ps := ["draw", "m", "i"]) fun _ _ _ _ _ _ us hl => match us, hl with | [_, _, _], _ => rfl
  have m__law_wb_hybrid := PySem.W.mg_of X G g__law_wb_hybrid
  have b__law_wb_even := F__law_wb_even.binds (ps := ["m"]) fun _ _ _ _ _ _ us hl => match us, hl with | [_], _ => rfl
  have m__law_wb_even := PySem.W.mg_of X G g__law_wb_even
  have b__law_words_right := F__law_words_right.binds (ps := ["m"]) fun _ _ _ _ _ _ us hl => match us, hl with | [_], _ => rfl
  have m__law_words_right := PySem.W.mg_of X G g__law_words_right
  have b__law_right := F__law_right.binds (ps := ["hat"]) fun _ _ _ _ _ _ us hl => match us, hl with | [_], _ => rfl
  have m__law_right := PySem.W.mg_of X G g__law_right
  have y_isinstance := PySem.W.mg_none_of X G z_isinstance
  have y_int := PySem.W.mg_none_of X G z_int
  have y_bool := PySem.W.mg_none_of X G z_bool
  have y_tuple := PySem.W.mg_none_of X G z_tuple
  have y_len := PySem.W.mg_none_of X G z_len
  have y_all := PySem.W.mg_none_of X G z_all
  have y_min := PySem.W.mg_none_of X G z_min
  have y_sum := PySem.W.mg_none_of X G z_sum
  have y_range := PySem.W.mg_none_of X G z_range
  have y_enumerate := PySem.W.mg_none_of X G z_enumerate
  have y_zip := PySem.W.mg_none_of X G z_zip
  have y_abs := PySem.W.mg_none_of X G z_abs
  have y_max := PySem.W.mg_none_of X G z_max
  have y_LONGEST := PySem.W.mg_of X G c_LONGEST
  have y__MOST_BITS := PySem.W.mg_of X G c__MOST_BITS
  have y_gcd := PySem.W.mg_of X G i_gcd
  have G_is_integer := ok_is_integer (P := l.prog) (w := w) (mg := mg) (base := base) (Ps := [tabP K "is_word", tabP K "is_row_within", tabP K "draw_of"]) (k := 0) F_is_integer y_isinstance y_int y_bool
  have G_is_short := ok_is_short (P := l.prog) (w := w) (mg := mg) (base := base) (Ps := [tabP K "is_word", tabP K "is_row_within", tabP K "draw_of"]) (k := 1) F_is_short y_LONGEST (by decide) G_is_integer m_is_integer kf_is_integer b_is_integer
  have G_is_between := ok_is_between (P := l.prog) (w := w) (mg := mg) (base := base) (Ps := [tabP K "is_word", tabP K "is_row_within", tabP K "draw_of"]) (k := 1) F_is_between (by decide) G_is_integer m_is_integer kf_is_integer b_is_integer
  have G_is_bit := ok_is_bit (P := l.prog) (w := w) (mg := mg) (base := base) (Ps := [tabP K "is_word", tabP K "is_row_within", tabP K "draw_of"]) (k := 2) F_is_bit (by decide) G_is_between m_is_between kf_is_between b_is_between
  have G_is_tuple_of := ok_is_tuple_of (P := l.prog) (w := w) (mg := mg) (base := base) (Ps := [tabP K "is_word", tabP K "is_row_within", tabP K "draw_of"]) (k := 0) F_is_tuple_of y_isinstance y_tuple y_len
  have G_is_word := ok_is_word (P := l.prog) (w := w) (mg := mg) (base := base) (Ps := [tabP K "is_word", tabP K "is_row_within", tabP K "draw_of"]) (k := 5) F_is_word y_all (by decide) B_is_word (List.mem_cons_self) (by decide) G_is_tuple_of m_is_tuple_of kf_is_tuple_of b_is_tuple_of (by decide) G_is_bit m_is_bit kf_is_bit b_is_bit
  have G_is_row_within := ok_is_row_within (P := l.prog) (w := w) (mg := mg) (base := base) (Ps := [tabP K "is_word", tabP K "is_row_within", tabP K "draw_of"]) (k := 3) F_is_row_within y_isinstance y_tuple y_len y_all (by decide) B_is_row_within (List.mem_cons_of_mem _ (List.mem_cons_self)) (by decide) G_is_tuple_of m_is_tuple_of kf_is_tuple_of b_is_tuple_of (by decide) G_is_integer m_is_integer kf_is_integer b_is_integer
  have G_is_weights := ok_is_weights (P := l.prog) (w := w) (mg := mg) (base := base) (Ps := [tabP K "is_word", tabP K "is_row_within", tabP K "draw_of"]) (k := 4) F_is_weights y_min (by decide) G_is_row_within m_is_row_within kf_is_row_within b_is_row_within
  have G_is_mix := ok_is_mix (P := l.prog) (w := w) (mg := mg) (base := base) (Ps := [tabP K "is_word", tabP K "is_row_within", tabP K "draw_of"]) (k := 5) F_is_mix y_sum (by decide) G_is_weights m_is_weights kf_is_weights b_is_weights
  have G_need_number := ok_need_number (P := l.prog) (w := w) (mg := mg) (base := base) (Ps := [tabP K "is_word", tabP K "is_row_within", tabP K "draw_of"]) (k := 2) F_need_number (by decide) G_is_between m_is_between kf_is_between b_is_between
  have G_need_draw := ok_need_draw (P := l.prog) (w := w) (mg := mg) (base := base) (Ps := [tabP K "is_word", tabP K "is_row_within", tabP K "draw_of"]) (k := 6) F_need_draw (by decide) G_is_mix m_is_mix kf_is_mix b_is_mix
  have G_need_word := ok_need_word (P := l.prog) (w := w) (mg := mg) (base := base) (Ps := [tabP K "is_word", tabP K "is_row_within", tabP K "draw_of"]) (k := 6) F_need_word (by decide) G_is_word m_is_word kf_is_word b_is_word
  have G_need_table := ok_need_table (P := l.prog) (w := w) (mg := mg) (base := base) (Ps := [tabP K "is_word", tabP K "is_row_within", tabP K "draw_of"]) (k := 6) F_need_table (by decide) G_is_word m_is_word kf_is_word b_is_word
  have G_spelled := ok_spelled (P := l.prog) (w := w) (mg := mg) (base := base) (Ps := [tabP K "is_word", tabP K "is_row_within", tabP K "draw_of"]) (k := 0) F_spelled y_range y_tuple
  have G_number_of := ok_number_of (P := l.prog) (w := w) (mg := mg) (base := base) (Ps := [tabP K "is_word", tabP K "is_row_within", tabP K "draw_of"]) (k := 0) F_number_of y_enumerate y_sum
  have G_reduced := ok_reduced (P := l.prog) (w := w) (mg := mg) (base := base) (Ps := [tabP K "is_word", tabP K "is_row_within", tabP K "draw_of"]) (k := 0) F_reduced y_gcd
  have G_minus := ok_minus (P := l.prog) (w := w) (mg := mg) (base := base) (Ps := [tabP K "is_word", tabP K "is_row_within", tabP K "draw_of"]) (k := 1) F_minus (by decide) G_reduced m_reduced kf_reduced b_reduced
  have G_dot := ok_dot (P := l.prog) (w := w) (mg := mg) (base := base) (Ps := [tabP K "is_word", tabP K "is_row_within", tabP K "draw_of"]) (k := 0) F_dot y_zip y_sum
  have G_lowest_row := ok_lowest_row (P := l.prog) (w := w) (mg := mg) (base := base) (Ps := [tabP K "is_word", tabP K "is_row_within", tabP K "draw_of"]) (k := 0) F_lowest_row y_gcd y_tuple
  have G_chance_of := ok_chance_of (P := l.prog) (w := w) (mg := mg) (base := base) (Ps := [tabP K "is_word", tabP K "is_row_within", tabP K "draw_of"]) (k := 1) F_chance_of (by decide) G_dot m_dot kf_dot b_dot (by decide) G_reduced m_reduced kf_reduced b_reduced
  have G_excess_of := ok_excess_of (P := l.prog) (w := w) (mg := mg) (base := base) (Ps := [tabP K "is_word", tabP K "is_row_within", tabP K "draw_of"]) (k := 2) F_excess_of y_len y_sum (by decide) G_chance_of m_chance_of kf_chance_of b_chance_of (by decide) G_minus m_minus kf_minus b_minus
  have G__need_bits := ok__need_bits (P := l.prog) (w := w) (mg := mg) (base := base) (Ps := [tabP K "is_word", tabP K "is_row_within", tabP K "draw_of"]) (k := 3) F__need_bits y__MOST_BITS (by decide) G_need_number m_need_number kf_need_number b_need_number
  have G__need_bits_and_draw := ok__need_bits_and_draw (P := l.prog) (w := w) (mg := mg) (base := base) (Ps := [tabP K "is_word", tabP K "is_row_within", tabP K "draw_of"]) (k := 7) F__need_bits_and_draw (by decide) G__need_bits m__need_bits kf__need_bits b__need_bits (by decide) G_need_draw m_need_draw kf_need_draw b_need_draw
  have G_words := ok_words (P := l.prog) (w := w) (mg := mg) (base := base) (Ps := [tabP K "is_word", tabP K "is_row_within", tabP K "draw_of"]) (k := 4) F_words y_range y_tuple (by decide) G__need_bits m__need_bits kf__need_bits b__need_bits (by decide) G_spelled m_spelled kf_spelled b_spelled
  have G_word_number := ok_word_number (P := l.prog) (w := w) (mg := mg) (base := base) (Ps := [tabP K "is_word", tabP K "is_row_within", tabP K "draw_of"]) (k := 7) F_word_number (by decide) G__need_bits m__need_bits kf__need_bits b__need_bits (by decide) G_need_word m_need_word kf_need_word b_need_word (by decide) G_number_of m_number_of kf_number_of b_number_of
  have G_draw_of := ok_draw_of (P := l.prog) (w := w) (mg := mg) (base := base) (Ps := [tabP K "is_word", tabP K "is_row_within", tabP K "draw_of"]) (k := 6) F_draw_of y_all y_sum (by decide) B_draw_of (List.mem_cons_of_mem _ (List.mem_cons_of_mem _ (List.mem_cons_self))) (by decide) G__need_bits m__need_bits kf__need_bits b__need_bits (by decide) G_is_tuple_of m_is_tuple_of kf_is_tuple_of b_is_tuple_of (by decide) G_is_short m_is_short kf_is_short b_is_short (by decide) G_lowest_row m_lowest_row kf_lowest_row b_lowest_row
  have G_even_draw := ok_even_draw (P := l.prog) (w := w) (mg := mg) (base := base) (Ps := [tabP K "is_word", tabP K "is_row_within", tabP K "draw_of"]) (k := 4) F_even_draw (by decide) G__need_bits m__need_bits kf__need_bits b__need_bits
  have G_excess := ok_excess (P := l.prog) (w := w) (mg := mg) (base := base) (Ps := [tabP K "is_word", tabP K "is_row_within", tabP K "draw_of"]) (k := 8) F_excess (by decide) G__need_bits_and_draw m__need_bits_and_draw kf__need_bits_and_draw b__need_bits_and_draw (by decide) G_need_table m_need_table kf_need_table b_need_table (by decide) G_excess_of m_excess_of kf_excess_of b_excess_of
  have G__heads := ok__heads (P := l.prog) (w := w) (mg := mg) (base := base) (Ps := [tabP K "is_word", tabP K "is_row_within", tabP K "draw_of"]) (k := 0) F__heads y_enumerate
  have G__hybrid_of := ok__hybrid_of (P := l.prog) (w := w) (mg := mg) (base := base) (Ps := [tabP K "is_word", tabP K "is_row_within", tabP K "draw_of"]) (k := 1) F__hybrid_of y_range (by decide) G__heads m__heads kf__heads b__heads (by decide) G_lowest_row m_lowest_row kf_lowest_row b_lowest_row
  have G_hybrid := ok_hybrid (P := l.prog) (w := w) (mg := mg) (base := base) (Ps := [tabP K "is_word", tabP K "is_row_within", tabP K "draw_of"]) (k := 8) F_hybrid (by decide) G__need_bits_and_draw m__need_bits_and_draw kf__need_bits_and_draw b__need_bits_and_draw (by decide) G_need_number m_need_number kf_need_number b_need_number (by decide) G__hybrid_of m__hybrid_of kf__hybrid_of b__hybrid_of
  have G_steps := ok_steps (P := l.prog) (w := w) (mg := mg) (base := base) (Ps := [tabP K "is_word", tabP K "is_row_within", tabP K "draw_of"]) (k := 8) F_steps y_range y_tuple (by decide) G__need_bits_and_draw m__need_bits_and_draw kf__need_bits_and_draw b__need_bits_and_draw (by decide) G_need_table m_need_table kf_need_table b_need_table (by decide) G__hybrid_of m__hybrid_of kf__hybrid_of b__hybrid_of (by decide) G_chance_of m_chance_of kf_chance_of b_chance_of (by decide) G_minus m_minus kf_minus b_minus
  have G__law_wb_hat : FnOk l.prog w K mg base CX0 2 f__law_wb_hat _ ["script", "spot"] (spHatD K) := ok_hat (k := 1) F__law_wb_hat y_int y_len y_abs y_max
  have G__law_wb_up : FnOk l.prog w K mg base CX0 2 f__law_wb_up _ ["hat", "total"] (spOf K [tabP K "is_word", tabP K "is_row_within", tabP K "draw_of"] SD_up) := (ok_up (k := 1) F__law_wb_up y_int).imp fun vs H Q E h => up_data h
  have G__law_wb_two := ok__law_wb_two (P := l.prog) (w := w) (mg := mg) (base := base) (Ps := [tabP K "is_word", tabP K "is_row_within", tabP K "draw_of"]) (k := 0) F__law_wb_two y_range
  have G__law_wb_of := ok__law_wb_of (P := l.prog) (w := w) (base := base) (Ps := [tabP K "is_word", tabP K "is_row_within", tabP K "draw_of"]) (k := 2) (SD := SD_of) F__law_wb_of (fun _ _ h => len_of h) y_len (by decide) G__law_wb_up m__law_wb_up kf__law_wb_up b__law_wb_up pu_of
  have G__law_wb_shared := ok__law_wb_shared (P := l.prog) (w := w) (mg := mg) (base := base) (Ps := [tabP K "is_word", tabP K "is_row_within", tabP K "draw_of"]) (k := 0) F__law_wb_shared y_abs
  have G__law_wb_frac := ok__law_wb_frac (P := l.prog) (w := w) (mg := mg) (base := base) (Ps := [tabP K "is_word", tabP K "is_row_within", tabP K "draw_of"]) (k := 1) F__law_wb_frac (by decide) G__law_wb_shared m__law_wb_shared kf__law_wb_shared b__law_wb_shared
  have G__law_wb_plus := ok__law_wb_plus (P := l.prog) (w := w) (mg := mg) (base := base) (Ps := [tabP K "is_word", tabP K "is_row_within", tabP K "draw_of"]) (k := 2) F__law_wb_plus (by decide) G__law_wb_frac m__law_wb_frac kf__law_wb_frac b__law_wb_frac
  have G__law_wb_less := ok__law_wb_less (P := l.prog) (w := w) (mg := mg) (base := base) (Ps := [tabP K "is_word", tabP K "is_row_within", tabP K "draw_of"]) (k := 2) F__law_wb_less (by decide) G__law_wb_frac m__law_wb_frac kf__law_wb_frac b__law_wb_frac
  have G__law_wb_least := ok__law_wb_least (P := l.prog) (w := w) (mg := mg) (base := base) (Ps := [tabP K "is_word", tabP K "is_row_within", tabP K "draw_of"]) (k := 1) F__law_wb_least y_tuple (by decide) G__law_wb_shared m__law_wb_shared kf__law_wb_shared b__law_wb_shared
  have G__law_wb_word := ok__law_wb_word (P := l.prog) (w := w) (mg := mg) (base := base) (Ps := [tabP K "is_word", tabP K "is_row_within", tabP K "draw_of"]) (k := 0) F__law_wb_word y_range y_tuple
  have G__law_wb_bits := ok__law_wb_bits (P := l.prog) (w := w) (base := base) (Ps := [tabP K "is_word", tabP K "is_row_within", tabP K "draw_of"]) (k := 2) (SD := SD_bits) F__law_wb_bits (fun _ _ h => len_bits h) y_range y_tuple (by decide) G__law_wb_up m__law_wb_up kf__law_wb_up b__law_wb_up pu_bits
  have G__law_wb_draw := ok__law_wb_draw (P := l.prog) (w := w) (base := base) (Ps := [tabP K "is_word", tabP K "is_row_within", tabP K "draw_of"]) (k := 3) (SD := SD_draw) F__law_wb_draw (fun _ _ h => len_draw h) y_range y_tuple y_sum (by decide) G__law_wb_of m__law_wb_of kf__law_wb_of b__law_wb_of (by decide) G__law_wb_up m__law_wb_up kf__law_wb_up b__law_wb_up pu_draw
  have G__law_wb_excess := ok__law_wb_excess (P := l.prog) (w := w) (mg := mg) (base := base) (Ps := [tabP K "is_word", tabP K "is_row_within", tabP K "draw_of"]) (k := 2) F__law_wb_excess y_zip y_sum y_len (by decide) G__law_wb_frac m__law_wb_frac kf__law_wb_frac b__law_wb_frac
  have G__law_wb_begin := ok__law_wb_begin (P := l.prog) (w := w) (mg := mg) (base := base) (Ps := [tabP K "is_word", tabP K "is_row_within", tabP K "draw_of"]) (k := 1) F__law_wb_begin y_enumerate y_len (by decide) G__law_wb_word m__law_wb_word kf__law_wb_word b__law_wb_word
  have G__law_wb_hybrid := ok__law_wb_hybrid (P := l.prog) (w := w) (mg := mg) (base := base) (Ps := [tabP K "is_word", tabP K "is_row_within", tabP K "draw_of"]) (k := 2) F__law_wb_hybrid y_len y_range y_tuple (by decide) G__law_wb_word m__law_wb_word kf__law_wb_word b__law_wb_word (by decide) G__law_wb_begin m__law_wb_begin kf__law_wb_begin b__law_wb_begin (by decide) G__law_wb_two m__law_wb_two kf__law_wb_two b__law_wb_two (by decide) G__law_wb_least m__law_wb_least kf__law_wb_least b__law_wb_least
  have G__law_wb_even := ok__law_wb_even (P := l.prog) (w := w) (mg := mg) (base := base) (Ps := [tabP K "is_word", tabP K "is_row_within", tabP K "draw_of"]) (k := 1) F__law_wb_even (by decide) G__law_wb_two m__law_wb_two kf__law_wb_two b__law_wb_two
  have G__law_words_right := ok__law_words_right (P := l.prog) (w := w) (mg := mg) (base := base) (Ps := [tabP K "is_word", tabP K "is_row_within", tabP K "draw_of"]) (k := 8) F__law_words_right y_range y_tuple y_enumerate (by decide) G__law_wb_two m__law_wb_two kf__law_wb_two b__law_wb_two (by decide) G__law_wb_word m__law_wb_word kf__law_wb_word b__law_wb_word (by decide) G_words m_words kf_words b_words (by decide) G_even_draw m_even_draw kf_even_draw b_even_draw (by decide) G__law_wb_even m__law_wb_even kf__law_wb_even b__law_wb_even (by decide) G_word_number m_word_number kf_word_number b_word_number
  have G__law_right := ok__law_right (P := l.prog) (w := w) (base := base) (Ps := [tabP K "is_word", tabP K "is_row_within", tabP K "draw_of"]) (k := 9) (SD := SD_right) F__law_right (fun _ _ h => len_right h) y_tuple y_sum y_range (by decide) G__law_wb_of m__law_wb_of kf__law_wb_of b__law_wb_of (by decide) G__law_wb_two m__law_wb_two kf__law_wb_two b__law_wb_two (by decide) G__law_wb_bits m__law_wb_bits kf__law_wb_bits b__law_wb_bits (by decide) G__law_wb_draw m__law_wb_draw kf__law_wb_draw b__law_wb_draw (by decide) G_draw_of m_draw_of kf_draw_of b_draw_of (by decide) G__law_wb_least m__law_wb_least kf__law_wb_least b__law_wb_least (by decide) G_excess m_excess kf_excess b_excess (by decide) G__law_wb_excess m__law_wb_excess kf__law_wb_excess b__law_wb_excess (by decide) G__law_wb_hybrid m__law_wb_hybrid kf__law_wb_hybrid b__law_wb_hybrid (by decide) G_hybrid m_hybrid kf_hybrid b_hybrid (by decide) G__law_wb_less m__law_wb_less kf__law_wb_less b__law_wb_less (by decide) G__law_wb_plus m__law_wb_plus kf__law_wb_plus b__law_wb_plus (by decide) G_steps m_steps kf_steps b_steps pu_right
  exact ok_law (P := l.prog) (w := w) (base := base) (Ps := [tabP K "is_word", tabP K "is_row_within", tabP K "draw_of"]) (k := 10) (SD := SD_law) F_law (fun _ _ h => len_law h) y_len y_min y_max y_range (by decide) G__law_wb_hat m__law_wb_hat kf__law_wb_hat b__law_wb_hat (by decide) G__law_right m__law_right kf__law_right b__law_right (by decide) G__law_words_right m__law_words_right kf__law_words_right b__law_words_right (by decide) G_draw_of m_draw_of kf_draw_of b_draw_of (by decide) G_excess m_excess kf_excess b_excess (by decide) G_steps m_steps kf_steps b_steps (by decide) G_hybrid m_hybrid kf_hybrid b_hybrid pu_law
end Q
end
set_option Elab.async false
set_option linter.all false
set_option maxRecDepth 100000
open PySem PySem.W PyProof.Rows
set_option maxHeartbeats 0 in
theorem PySem.Challenge.cw_hardbits_k31_whole_draws_and_hybrids_holds : PySem.Challenge.rw_hardbits_k31_whole_draws_and_hybrids.Holds := by
  w_on; o_law; k_head; (case hw => w_witness2)
  k_fill
  refine Dl.walk_tab (CX := fun _ => L2.CX0) (l := PySem.Challenge.rw_hardbits_k31_whole_draws_and_hybrids) (n := 63) (k := 11) (x := "script") rfl (by decide) rfl ⟨rfl, by decide, by decide⟩ (fun w h Y => PySem.W.kIn_of Y) ?F (fun _ _ _ _ _ z => z)
  case F =>
    intro w mg fa h KX G hmg tabs
    refine' Q.all_mk KX G hmg tabs ?fk_g_is_integer ?fk_l_is_integer ?fk_c_is_integer ?fk_kf_is_integer ?fk_g_is_short ?fk_l_is_short ?fk_c_is_short ?fk_kf_is_short ?fk_g_is_between ?fk_l_is_between ?fk_c_is_between ?fk_kf_is_between ?fk_g_is_bit ?fk_l_is_bit ?fk_c_is_bit ?fk_kf_is_bit ?fk_g_is_tuple_of ?fk_l_is_tuple_of ?fk_c_is_tuple_of ?fk_kf_is_tuple_of ?fk_g_is_word ?fk_l_is_word ?fk_c_is_word ?fk_kf_is_word ?fk_t_is_word ?fk_r_is_word ?fk_p_is_word ?fk_g_is_row_within ?fk_l_is_row_within ?fk_c_is_row_within ?fk_kf_is_row_within ?fk_t_is_row_within ?fk_r_is_row_within ?fk_p_is_row_within ?fk_g_is_weights ?fk_l_is_weights ?fk_c_is_weights ?fk_kf_is_weights ?fk_g_is_mix ?fk_l_is_mix ?fk_c_is_mix ?fk_kf_is_mix ?fk_g_need_number ?fk_l_need_number ?fk_c_need_number ?fk_kf_need_number ?fk_g_need_draw ?fk_l_need_draw ?fk_c_need_draw ?fk_kf_need_draw ?fk_g_need_word ?fk_l_need_word ?fk_c_need_word ?fk_kf_need_word ?fk_g_need_table ?fk_l_need_table ?fk_c_need_table ?fk_kf_need_table ?fk_g_spelled ?fk_l_spelled ?fk_c_spelled ?fk_kf_spelled ?fk_g_number_of ?fk_l_number_of ?fk_c_number_of ?fk_kf_number_of ?fk_g_reduced ?fk_l_reduced ?fk_c_reduced ?fk_kf_reduced ?fk_g_minus ?fk_l_minus ?fk_c_minus ?fk_kf_minus ?fk_g_dot ?fk_l_dot ?fk_c_dot ?fk_kf_dot ?fk_g_lowest_row ?fk_l_lowest_row ?fk_c_lowest_row ?fk_kf_lowest_row ?fk_g_chance_of ?fk_l_chance_of ?fk_c_chance_of ?fk_kf_chance_of ?fk_g_excess_of ?fk_l_excess_of ?fk_c_excess_of ?fk_kf_excess_of ?fk_g__need_bits ?fk_l__need_bits ?fk_c__need_bits ?fk_kf__need_bits ?fk_g__need_bits_and_draw ?fk_l__need_bits_and_draw ?fk_c__need_bits_and_draw ?fk_kf__need_bits_and_draw ?fk_g_words ?fk_l_words ?fk_c_words ?fk_kf_words ?fk_g_word_number ?fk_l_word_number ?fk_c_word_number ?fk_kf_word_number ?fk_g_draw_of ?fk_l_draw_of ?fk_c_draw_of ?fk_kf_draw_of ?fk_t_draw_of ?fk_r_draw_of ?fk_p_draw_of ?fk_g_even_draw ?fk_l_even_draw ?fk_c_even_draw ?fk_kf_even_draw ?fk_g_excess ?fk_l_excess ?fk_c_excess ?fk_kf_excess ?fk_g__heads ?fk_l__heads ?fk_c__heads ?fk_kf__heads ?fk_g__hybrid_of ?fk_l__hybrid_of ?fk_c__hybrid_of ?fk_kf__hybrid_of ?fk_g_hybrid ?fk_l_hybrid ?fk_c_hybrid ?fk_kf_hybrid ?fk_g_steps ?fk_l_steps ?fk_c_steps ?fk_kf_steps ?fk_g__law_wb_hat ?fk_l__law_wb_hat ?fk_c__law_wb_hat ?fk_kf__law_wb_hat ?fk_g__law_wb_up ?fk_l__law_wb_up ?fk_c__law_wb_up ?fk_kf__law_wb_up ?fk_g__law_wb_two ?fk_l__law_wb_two ?fk_c__law_wb_two ?fk_kf__law_wb_two ?fk_g__law_wb_of ?fk_l__law_wb_of ?fk_c__law_wb_of ?fk_kf__law_wb_of ?fk_g__law_wb_shared ?fk_l__law_wb_shared ?fk_c__law_wb_shared ?fk_kf__law_wb_shared ?fk_g__law_wb_frac ?fk_l__law_wb_frac ?fk_c__law_wb_frac ?fk_kf__law_wb_frac ?fk_g__law_wb_plus ?fk_l__law_wb_plus ?fk_c__law_wb_plus ?fk_kf__law_wb_plus ?fk_g__law_wb_less ?fk_l__law_wb_less ?fk_c__law_wb_less ?fk_kf__law_wb_less ?fk_g__law_wb_least ?fk_l__law_wb_least ?fk_c__law_wb_least ?fk_kf__law_wb_least ?fk_g__law_wb_word ?fk_l__law_wb_word ?fk_c__law_wb_word ?fk_kf__law_wb_word ?fk_g__law_wb_bits ?fk_l__law_wb_bits ?fk_c__law_wb_bits ?fk_kf__law_wb_bits ?fk_g__law_wb_draw ?fk_l__law_wb_draw ?fk_c__law_wb_draw ?fk_kf__law_wb_draw ?fk_g__law_wb_excess ?fk_l__law_wb_excess ?fk_c__law_wb_excess ?fk_kf__law_wb_excess ?fk_g__law_wb_begin ?fk_l__law_wb_begin ?fk_c__law_wb_begin ?fk_kf__law_wb_begin ?fk_g__law_wb_hybrid ?fk_l__law_wb_hybrid ?fk_c__law_wb_hybrid ?fk_kf__law_wb_hybrid ?fk_g__law_wb_even ?fk_l__law_wb_even ?fk_c__law_wb_even ?fk_kf__law_wb_even ?fk_g__law_words_right ?fk_l__law_words_right ?fk_c__law_words_right ?fk_kf__law_words_right ?fk_g__law_right ?fk_l__law_right ?fk_c__law_right ?fk_kf__law_right ?fk_g_law ?fk_l_law ?fk_c_law ?fk_kf_law ?fk_z_isinstance ?fk_z_int ?fk_z_bool ?fk_z_tuple ?fk_z_len ?fk_z_all ?fk_z_min ?fk_z_sum ?fk_z_range ?fk_z_enumerate ?fk_z_zip ?fk_z_abs ?fk_z_max ?fk_c_LONGEST ?fk_c__MOST_BITS ?fk_i_gcd
    (case fk_g_is_integer => k_is)
    (case fk_l_is_integer => k_is)
    (case fk_c_is_integer => k_is)
    (case fk_kf_is_integer => k_is)
    (case fk_g_is_short => k_is)
    (case fk_l_is_short => k_is)
    (case fk_c_is_short => k_is)
    (case fk_kf_is_short => k_is)
    (case fk_g_is_between => k_is)
    (case fk_l_is_between => k_is)
    (case fk_c_is_between => k_is)
    (case fk_kf_is_between => k_is)
    (case fk_g_is_bit => k_is)
    (case fk_l_is_bit => k_is)
    (case fk_c_is_bit => k_is)
    (case fk_kf_is_bit => k_is)
    (case fk_g_is_tuple_of => k_is)
    (case fk_l_is_tuple_of => k_is)
    (case fk_c_is_tuple_of => k_is)
    (case fk_kf_is_tuple_of => k_is)
    (case fk_g_is_word => k_is)
    (case fk_l_is_word => k_is)
    (case fk_c_is_word => k_is)
    (case fk_kf_is_word => k_is)
    (case fk_t_is_word => kernel_rfl)
    (case fk_r_is_word => kernel_rfl)
    (case fk_p_is_word => kernel_rfl)
    (case fk_g_is_row_within => k_is)
    (case fk_l_is_row_within => k_is)
    (case fk_c_is_row_within => k_is)
    (case fk_kf_is_row_within => k_is)
    (case fk_t_is_row_within => kernel_rfl)
    (case fk_r_is_row_within => kernel_rfl)
    (case fk_p_is_row_within => kernel_rfl)
    (case fk_g_is_weights => k_is)
    (case fk_l_is_weights => k_is)
    (case fk_c_is_weights => k_is)
    (case fk_kf_is_weights => k_is)
    (case fk_g_is_mix => k_is)
    (case fk_l_is_mix => k_is)
    (case fk_c_is_mix => k_is)
    (case fk_kf_is_mix => k_is)
    (case fk_g_need_number => k_is)
    (case fk_l_need_number => k_is)
    (case fk_c_need_number => k_is)
    (case fk_kf_need_number => k_is)
    (case fk_g_need_draw => k_is)
    (case fk_l_need_draw => k_is)
    (case fk_c_need_draw => k_is)
    (case fk_kf_need_draw => k_is)
    (case fk_g_need_word => k_is)
    (case fk_l_need_word => k_is)
    (case fk_c_need_word => k_is)
    (case fk_kf_need_word => k_is)
    (case fk_g_need_table => k_is)
    (case fk_l_need_table => k_is)
    (case fk_c_need_table => k_is)
    (case fk_kf_need_table => k_is)
    (case fk_g_spelled => k_is)
    (case fk_l_spelled => k_is)
    (case fk_c_spelled => k_is)
    (case fk_kf_spelled => k_is)
    (case fk_g_number_of => k_is)
    (case fk_l_number_of => k_is)
    (case fk_c_number_of => k_is)
    (case fk_kf_number_of => k_is)
    (case fk_g_reduced => k_is)
    (case fk_l_reduced => k_is)
    (case fk_c_reduced => k_is)
    (case fk_kf_reduced => k_is)
    (case fk_g_minus => k_is)
    (case fk_l_minus => k_is)
    (case fk_c_minus => k_is)
    (case fk_kf_minus => k_is)
    (case fk_g_dot => k_is)
    (case fk_l_dot => k_is)
    (case fk_c_dot => k_is)
    (case fk_kf_dot => k_is)
    (case fk_g_lowest_row => k_is)
    (case fk_l_lowest_row => k_is)
    (case fk_c_lowest_row => k_is)
    (case fk_kf_lowest_row => k_is)
    (case fk_g_chance_of => k_is)
    (case fk_l_chance_of => k_is)
    (case fk_c_chance_of => k_is)
    (case fk_kf_chance_of => k_is)
    (case fk_g_excess_of => k_is)
    (case fk_l_excess_of => k_is)
    (case fk_c_excess_of => k_is)
    (case fk_kf_excess_of => k_is)
    (case fk_g__need_bits => k_is)
    (case fk_l__need_bits => k_is)
    (case fk_c__need_bits => k_is)
    (case fk_kf__need_bits => k_is)
    (case fk_g__need_bits_and_draw => k_is)
    (case fk_l__need_bits_and_draw => k_is)
    (case fk_c__need_bits_and_draw => k_is)
    (case fk_kf__need_bits_and_draw => k_is)
    (case fk_g_words => k_is)
    (case fk_l_words => k_is)
    (case fk_c_words => k_is)
    (case fk_kf_words => k_is)
    (case fk_g_word_number => k_is)
    (case fk_l_word_number => k_is)
    (case fk_c_word_number => k_is)
    (case fk_kf_word_number => k_is)
    (case fk_g_draw_of => k_is)
    (case fk_l_draw_of => k_is)
    (case fk_c_draw_of => k_is)
    (case fk_kf_draw_of => k_is)
    (case fk_t_draw_of => kernel_rfl)
    (case fk_r_draw_of => kernel_rfl)
    (case fk_p_draw_of => kernel_rfl)
    (case fk_g_even_draw => k_is)
    (case fk_l_even_draw => k_is)
    (case fk_c_even_draw => k_is)
    (case fk_kf_even_draw => k_is)
    (case fk_g_excess => k_is)
    (case fk_l_excess => k_is)
    (case fk_c_excess => k_is)
    (case fk_kf_excess => k_is)
    (case fk_g__heads => k_is)
    (case fk_l__heads => k_is)
    (case fk_c__heads => k_is)
    (case fk_kf__heads => k_is)
    (case fk_g__hybrid_of => k_is)
    (case fk_l__hybrid_of => k_is)
    (case fk_c__hybrid_of => k_is)
    (case fk_kf__hybrid_of => k_is)
    (case fk_g_hybrid => k_is)
    (case fk_l_hybrid => k_is)
    (case fk_c_hybrid => k_is)
    (case fk_kf_hybrid => k_is)
    (case fk_g_steps => k_is)
    (case fk_l_steps => k_is)
    (case fk_c_steps => k_is)
    (case fk_kf_steps => k_is)
    (case fk_g__law_wb_hat => k_is)
    (case fk_l__law_wb_hat => k_is)
    (case fk_c__law_wb_hat => k_is)
    (case fk_kf__law_wb_hat => k_is)
    (case fk_g__law_wb_up => k_is)
    (case fk_l__law_wb_up => k_is)
    (case fk_c__law_wb_up => k_is)
    (case fk_kf__law_wb_up => k_is)
    (case fk_g__law_wb_two => k_is)
    (case fk_l__law_wb_two => k_is)
    (case fk_c__law_wb_two => k_is)
    (case fk_kf__law_wb_two => k_is)
    (case fk_g__law_wb_of => k_is)
    (case fk_l__law_wb_of => k_is)
    (case fk_c__law_wb_of => k_is)
    (case fk_kf__law_wb_of => k_is)
    (case fk_g__law_wb_shared => k_is)
    (case fk_l__law_wb_shared => k_is)
    (case fk_c__law_wb_shared => k_is)
    (case fk_kf__law_wb_shared => k_is)
    (case fk_g__law_wb_frac => k_is)
    (case fk_l__law_wb_frac => k_is)
    (case fk_c__law_wb_frac => k_is)
    (case fk_kf__law_wb_frac => k_is)
    (case fk_g__law_wb_plus => k_is)
    (case fk_l__law_wb_plus => k_is)
    (case fk_c__law_wb_plus => k_is)
    (case fk_kf__law_wb_plus => k_is)
    (case fk_g__law_wb_less => k_is)
    (case fk_l__law_wb_less => k_is)
    (case fk_c__law_wb_less => k_is)
    (case fk_kf__law_wb_less => k_is)
    (case fk_g__law_wb_least => k_is)
    (case fk_l__law_wb_least => k_is)
    (case fk_c__law_wb_least => k_is)
    (case fk_kf__law_wb_least => k_is)
    (case fk_g__law_wb_word => k_is)
    (case fk_l__law_wb_word => k_is)
    (case fk_c__law_wb_word => k_is)
    (case fk_kf__law_wb_word => k_is)
    (case fk_g__law_wb_bits => k_is)
    (case fk_l__law_wb_bits => k_is)
    (case fk_c__law_wb_bits => k_is)
    (case fk_kf__law_wb_bits => k_is)
    (case fk_g__law_wb_draw => k_is)
    (case fk_l__law_wb_draw => k_is)
    (case fk_c__law_wb_draw => k_is)
    (case fk_kf__law_wb_draw => k_is)
    (case fk_g__law_wb_excess => k_is)
    (case fk_l__law_wb_excess => k_is)
    (case fk_c__law_wb_excess => k_is)
    (case fk_kf__law_wb_excess => k_is)
    (case fk_g__law_wb_begin => k_is)
    (case fk_l__law_wb_begin => k_is)
    (case fk_c__law_wb_begin => k_is)
    (case fk_kf__law_wb_begin => k_is)
    (case fk_g__law_wb_hybrid => k_is)
    (case fk_l__law_wb_hybrid => k_is)
    (case fk_c__law_wb_hybrid => k_is)
    (case fk_kf__law_wb_hybrid => k_is)
    (case fk_g__law_wb_even => k_is)
    (case fk_l__law_wb_even => k_is)
    (case fk_c__law_wb_even => k_is)
    (case fk_kf__law_wb_even => k_is)
    (case fk_g__law_words_right => k_is)
    (case fk_l__law_words_right => k_is)
    (case fk_c__law_words_right => k_is)
    (case fk_kf__law_words_right => k_is)
    (case fk_g__law_right => k_is)
    (case fk_l__law_right => k_is)
    (case fk_c__law_right => k_is)
    (case fk_kf__law_right => k_is)
    (case fk_g_law => k_is)
    (case fk_l_law => k_is)
    (case fk_c_law => k_is)
    (case fk_kf_law => k_is)
    (case fk_z_isinstance => k_is)
    (case fk_z_int => k_is)
    (case fk_z_bool => k_is)
    (case fk_z_tuple => k_is)
    (case fk_z_len => k_is)
    (case fk_z_all => k_is)
    (case fk_z_min => k_is)
    (case fk_z_sum => k_is)
    (case fk_z_range => k_is)
    (case fk_z_enumerate => k_is)
    (case fk_z_zip => k_is)
    (case fk_z_abs => k_is)
    (case fk_z_max => k_is)
    (case fk_c_LONGEST => k_is)
    (case fk_c__MOST_BITS => k_is)
    (case fk_i_gcd => k_is)
